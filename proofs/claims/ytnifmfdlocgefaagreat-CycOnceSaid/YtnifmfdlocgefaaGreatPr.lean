/-
  What the proofs lean on, part 18 of 20.
-/
import Derived.Test.YtnifmfdlocgefaaGreatPb
import Derived.Test.YtnifmfdlocgefaaGreatPd
import Derived.Test.YtnifmfdlocgefaaGreatPf
import Derived.Test.YtnifmfdlocgefaaGreatPh
import Derived.Test.YtnifmfdlocgefaaGreatPi
import Derived.Test.YtnifmfdlocgefaaGreatPj
import Derived.Test.YtnifmfdlocgefaaGreatPo
import Derived.Test.YtnifmfdlocgefaaGreatPq
import Derived.Laws.EntriesVeiled
namespace Go.Proofs.YtnifmfdlocgefaaGreat.Ig
open Go.RowKit Kit Tr Uf
open Go.Proofs.YtnifmfdlocgefaaGreat.Hs (Keys Ints BoxT layI Dist refLay_any LayPost)
open Go.Proofs.YtnifmfdlocgefaaGreat.Tm (Tm termAt of_any Box4)
def twoK : List (List Int) := [[0, 0, 0], [1, 0, 0], [2, 0, 0], [2, 1, 0]]
theorem own_ints12 {w : World} {g : Nat} {l : List Int} {K : Nat → Prop} (h : OwnC w g (cellsI l)) (hk : K g) : Hs.IntsP w K (some ⟨g, 0, none⟩) l := fun _ => ⟨_, rfl, hk, h.1, fun i x hx => by rw [Tr.add_zero_head]; exact (h.2 i _ (by simp [cellsI, hx])).1⟩
theorem own_new12 (w : World) (cs : List Value) (t : TypeId) : OwnC (w.alloc (.cells cs.toArray t)) w.heap.size cs := by
  refine ⟨by simp, fun j v hv => ⟨?_, World.frozen?_alloc_at _ _ _ _ rfl⟩⟩
  rw [cell_of_row _ _ _ _ _ _ (heap_alloc_new w _)]
  simpa using hv
theorem two_keys (W0 : World) : Hs.KeysP (((((W0.alloc (Obj.cells #[.int .i64 0, .int .i64 0, .int .i64 0] 3)).alloc (Obj.cells #[.int .i64 1, .int .i64 0, .int .i64 0] 3)).alloc (Obj.cells #[.int .i64 2, .int .i64 0, .int .i64 0] 3)).alloc (Obj.cells #[.int .i64 2, .int .i64 1, .int .i64 0] 3)).alloc (Obj.cells #[.slice (some ⟨W0.heap.size, 0, none⟩) 3 3, .slice (some ⟨(W0.heap.size + 1), 0, none⟩) 3 3, .slice (some ⟨(W0.heap.size + 1 + 1), 0, none⟩) 3 3, .slice (some ⟨(W0.heap.size + 1 + 1 + 1), 0, none⟩) 3 3] 24)) (fun b => W0.heap.size ≤ b) (some ⟨(W0.heap.size + 1 + 1 + 1 + 1), 0, none⟩) twoK ∧ Q W0 (((((W0.alloc (Obj.cells #[.int .i64 0, .int .i64 0, .int .i64 0] 3)).alloc (Obj.cells #[.int .i64 1, .int .i64 0, .int .i64 0] 3)).alloc (Obj.cells #[.int .i64 2, .int .i64 0, .int .i64 0] 3)).alloc (Obj.cells #[.int .i64 2, .int .i64 1, .int .i64 0] 3)).alloc (Obj.cells #[.slice (some ⟨W0.heap.size, 0, none⟩) 3 3, .slice (some ⟨(W0.heap.size + 1), 0, none⟩) 3 3, .slice (some ⟨(W0.heap.size + 1 + 1), 0, none⟩) 3 3, .slice (some ⟨(W0.heap.size + 1 + 1 + 1), 0, none⟩) 3 3] 24)) := by
  have o0 := own_new12 W0 [.int .i64 0, .int .i64 0, .int .i64 0] 3
  have q0 := (Q.refl W0).alloc (Obj.cells #[.int .i64 0, .int .i64 0, .int .i64 0] 3)
  have z0 : (W0.alloc (Obj.cells #[.int .i64 0, .int .i64 0, .int .i64 0] 3)).heap.size = W0.heap.size + 1 := by simp
  generalize W0.alloc (Obj.cells #[.int .i64 0, .int .i64 0, .int .i64 0] 3) = X1 at *
  have o1 := own_new12 X1 [.int .i64 1, .int .i64 0, .int .i64 0] 3
  have q1 := (Q.refl X1).alloc (Obj.cells #[.int .i64 1, .int .i64 0, .int .i64 0] 3)
  have z1 : (X1.alloc (Obj.cells #[.int .i64 1, .int .i64 0, .int .i64 0] 3)).heap.size = X1.heap.size + 1 := by simp
  generalize X1.alloc (Obj.cells #[.int .i64 1, .int .i64 0, .int .i64 0] 3) = X2 at *
  have o2 := own_new12 X2 [.int .i64 2, .int .i64 0, .int .i64 0] 3
  have q2 := (Q.refl X2).alloc (Obj.cells #[.int .i64 2, .int .i64 0, .int .i64 0] 3)
  have z2 : (X2.alloc (Obj.cells #[.int .i64 2, .int .i64 0, .int .i64 0] 3)).heap.size = X2.heap.size + 1 := by simp
  generalize X2.alloc (Obj.cells #[.int .i64 2, .int .i64 0, .int .i64 0] 3) = X3 at *
  have o3 := own_new12 X3 [.int .i64 2, .int .i64 1, .int .i64 0] 3
  have q3 := (Q.refl X3).alloc (Obj.cells #[.int .i64 2, .int .i64 1, .int .i64 0] 3)
  have z3 : (X3.alloc (Obj.cells #[.int .i64 2, .int .i64 1, .int .i64 0] 3)).heap.size = X3.heap.size + 1 := by simp
  generalize X3.alloc (Obj.cells #[.int .i64 2, .int .i64 1, .int .i64 0] 3) = X4 at *
  have e1 : X1.heap.size = W0.heap.size + 1 := z0
  have e2 : X2.heap.size = W0.heap.size + 1 + 1 := by omega
  have e3 : X3.heap.size = W0.heap.size + 1 + 1 + 1 := by omega
  have e4 : X4.heap.size = W0.heap.size + 1 + 1 + 1 + 1 := by omega
  have o4 := own_new12 X4 [.slice (some ⟨W0.heap.size, 0, none⟩) 3 3, .slice (some ⟨(W0.heap.size + 1), 0, none⟩) 3 3, .slice (some ⟨(W0.heap.size + 1 + 1), 0, none⟩) 3 3, .slice (some ⟨(W0.heap.size + 1 + 1 + 1), 0, none⟩) 3 3] 24
  have q4 := (Q.refl X4).alloc (Obj.cells #[.slice (some ⟨W0.heap.size, 0, none⟩) 3 3, .slice (some ⟨(W0.heap.size + 1), 0, none⟩) 3 3, .slice (some ⟨(W0.heap.size + 1 + 1), 0, none⟩) 3 3, .slice (some ⟨(W0.heap.size + 1 + 1 + 1), 0, none⟩) 3 3] 24)
  rw [e4] at o4
  rw [e1] at o1
  rw [e2] at o2
  rw [e3] at o3
  generalize X4.alloc (Obj.cells #[.slice (some ⟨W0.heap.size, 0, none⟩) 3 3, .slice (some ⟨(W0.heap.size + 1), 0, none⟩) 3 3, .slice (some ⟨(W0.heap.size + 1 + 1), 0, none⟩) 3 3, .slice (some ⟨(W0.heap.size + 1 + 1 + 1), 0, none⟩) 3 3] 24) = X5 at *
  have q34 := q3.trans q4
  have q24 := q2.trans q34
  have q14 := q1.trans q24
  refine ⟨fun _ => ⟨_, rfl, (by show W0.heap.size ≤ W0.heap.size + 1 + 1 + 1 + 1; omega), o4.1, fun i k hk => ?_⟩, q0.trans q14⟩
  match i, hk with
  | 0, hk =>
    obtain rfl : [0, 0, 0] = k := by simpa [twoK] using hk
    exact ⟨some ⟨W0.heap.size, 0, none⟩, 3, Nat.le_refl _, by rw [Hs.add_zero_head]; exact (o4.2 0 _ rfl).1, own_ints12 (l := [0, 0, 0]) (o0.q q14) (by show W0.heap.size ≤ W0.heap.size; omega)⟩
  | 1, hk =>
    obtain rfl : [1, 0, 0] = k := by simpa [twoK] using hk
    exact ⟨some ⟨(W0.heap.size + 1), 0, none⟩, 3, Nat.le_refl _, by rw [Hs.add_zero_head]; exact (o4.2 1 _ rfl).1, own_ints12 (l := [1, 0, 0]) (o1.q q24) (by show W0.heap.size ≤ (W0.heap.size + 1); omega)⟩
  | 2, hk =>
    obtain rfl : [2, 0, 0] = k := by simpa [twoK] using hk
    exact ⟨some ⟨(W0.heap.size + 1 + 1), 0, none⟩, 3, Nat.le_refl _, by rw [Hs.add_zero_head]; exact (o4.2 2 _ rfl).1, own_ints12 (l := [2, 0, 0]) (o2.q q34) (by show W0.heap.size ≤ (W0.heap.size + 1 + 1); omega)⟩
  | 3, hk =>
    obtain rfl : [2, 1, 0] = k := by simpa [twoK] using hk
    exact ⟨some ⟨(W0.heap.size + 1 + 1 + 1), 0, none⟩, 3, Nat.le_refl _, by rw [Hs.add_zero_head]; exact (o4.2 3 _ rfl).1, own_ints12 (l := [2, 1, 0]) (o3.q q4) (by show W0.heap.size ≤ (W0.heap.size + 1 + 1 + 1); omega)⟩
  | i + 4, hk => simp [twoK] at hk
theorem size_two : Hs.sizeN twoK.length = 8 := by
  show Hs.sizeN 4 = 8
  unfold Hs.sizeN; rw [Hs.sizeG_ge (by omega)]
end Go.Proofs.YtnifmfdlocgefaaGreat.Ig

namespace Go.Proofs.YtnifmfdlocgefaaGreat.Ig
open Go.RowKit Kit Tr Uf
open Go.Proofs.YtnifmfdlocgefaaGreat.Hs (Keys Ints BoxT layI)
open Go.Proofs.YtnifmfdlocgefaaGreat.Tm (Tm termAt of_any Box4)
end Go.Proofs.YtnifmfdlocgefaaGreat.Ig

namespace Go.Proofs.YtnifmfdlocgefaaGreat.Ig
open Go.RowKit Kit Tr Uf
open Go.Proofs.YtnifmfdlocgefaaGreat.Hs (Keys Ints BoxT layI)
open Go.Proofs.YtnifmfdlocgefaaGreat.Tm (Tm termAt of_any Box4)
end Go.Proofs.YtnifmfdlocgefaaGreat.Ig

namespace Go.Proofs.YtnifmfdlocgefaaGreat.Ig
open Go.RowKit Kit Tr Uf
open Go.Proofs.YtnifmfdlocgefaaGreat.Hs (Keys Ints BoxT layI KeysP IntsP)
open Go.Proofs.YtnifmfdlocgefaaGreat.Tm (Tm termAt of_any Box4)
open Go.Proofs.YtnifmfdlocgefaaGreat.St (cellsQ cellsQ_append cellsQ_len cellsQ_one pairInfo PI)
section
variable {w W W' : World} {R : List Int} {c : Cells} {P T : List (List Int)} {a1 a2 f1 f2 f3 f4 f5 f6 : Value} {g0 g1 g2 g3 gp gs O Br : Nat}
end
/-- the example's graph: two variables, each alone -/
def c2 : Cells := ⟨[0, 1], [(-1, 0), (-1, 0)], []⟩
theorem cl2 : Cl [] c2.V := cl_of (by decide)
end Go.Proofs.YtnifmfdlocgefaaGreat.Ig

namespace Go.Proofs.YtnifmfdlocgefaaGreat.Ig
open Go.RowKit Kit Tr Uf
open Go.Proofs.YtnifmfdlocgefaaGreat.Hs (Keys Ints BoxT layI KeysP IntsP)
open Go.Proofs.YtnifmfdlocgefaaGreat.Tm (Tm termAt of_any Box4)
theorem rep_2 : repV twoK c2.V 2 = 2 := by decide
theorem rep_3 : repV twoK c2.V 3 = 3 := by decide
end Go.Proofs.YtnifmfdlocgefaaGreat.Ig

namespace Go.Proofs.YtnifmfdlocgefaaGreat.Ig
open Go.RowKit Kit Tr Uf
open Go.Proofs.YtnifmfdlocgefaaGreat.Cy
open Go.Proofs.YtnifmfdlocgefaaGreat.Hs (Keys Ints BoxT layI KeysP IntsP)
/-- the example's graphs as values -/
def gv2 (F A D E Pa Ta : Option Addr) (cr k1 k2 k3 kp kt : Nat) : Value := .agg #[.slice F 0 cr, .slice A 2 k1, .slice D 2 k2, .slice E 0 k3, .slice Pa 2 kp, .slice Ta 2 kt]
def e2 : List (List Int) := [[], []]
def p2 : List (List Int) := [[], [2]]
def GRX (w : World) (bx : Nat) (P T : List (List Int)) (F A D E Pa Ta : Option Addr) (k1 k2 k3 : Nat) : Prop := GRQ w (fun b => b < w.heap.size ∧ b ≠ bx) [] c2 P T F A D E Pa Ta k1 k2 k3
theorem GRX.q {w W : World} {bx : Nat} {P T : List (List Int)} {F A D E Pa Ta : Option Addr} {k1 k2 k3 : Nat} (h : GRX w bx P T F A D E Pa Ta k1 k2 k3) (q : Q w W) : GRX W bx P T F A D E Pa Ta k1 k2 k3 :=
  GRQ.to h (agree_q (P := fun b => b < w.heap.size ∧ b ≠ bx) q) (fun _ hb _ => ⟨Nat.lt_of_lt_of_le hb.1 q.size, hb.2⟩)
theorem GRX.box {w W : World} {bx : Nat} {P T : List (List Int)} {F A D E Pa Ta : Option Addr} {k1 k2 k3 : Nat} (h : GRX w bx P T F A D E Pa Ta k1 k2 k3) (q : Q w W) : GRX W w.heap.size P T F A D E Pa Ta k1 k2 k3 :=
  GRQ.to h (agree_q (P := fun b => b < w.heap.size ∧ b ≠ bx) q) (fun _ hb _ => ⟨Nat.lt_of_lt_of_le hb.1 q.size, Nat.ne_of_lt hb.1⟩)
def AddX (bx : Nat) (P T : List (List Int)) (w : World) (e : Ending) (w' : World) : Prop :=
  ∃ F A D E Pa Ta cr k1 k2 k3 kp kt v, e = .returned (.tuple #[gv2 F A D E Pa Ta cr k1 k2 k3 kp kt, v, .bool true]) ∧ GRX w' bx P T F A D E Pa Ta k1 k2 k3 ∧ Q w w'
theorem new13_ex (bx : Nat) (w : World) (hb : bx < w.heap.size) : Calls Tryz.prog 56 #[.slice none 0 0, .int .i64 2] w fun e w' => ∃ A D E Pa Ta k1 k2 k3 kp kt, e = .returned (gv2 none A D E Pa Ta 0 k1 k2 k3 kp kt) ∧ GRX w' bx e2 e2 none A D E Pa Ta k1 k2 k3 ∧ Q w w' :=
  (refNew12_nil 2 w (by omega)).mono fun e w' ⟨A, D, E, Pa, Ta, k1, k2, k3, kp, kt, h, hG, q⟩ => ⟨A, D, E, Pa, Ta, k1, k2, k3, kp, kt, h, GRQ.to hG (agree_q (P := fun b => w.heap.size ≤ b) (Q.refl w')) (fun _ h1 h2 => ⟨h2, by omega⟩), q⟩
theorem n13_2 : numV twoK c2.V.length 2 = ((0 : Nat) : Int) := by decide
theorem n13_3 : numV twoK c2.V.length 3 = ((1 : Nat) : Int) := by decide
theorem add13_23 (bx : Nat) (A S F Av D E Pa Ta : Option Addr) (cr k1 k2 k3 kp kt : Nat) (w : World) (hk : Keys w w.heap.size A twoK) (hb : bx < w.heap.size) (hG : GRX w bx e2 e2 F Av D E Pa Ta k1 k2 k3) :
    Calls Tryz.prog 55 #[.agg #[.slice A 4 4, .slice S 8 8], .agg #[.slice F 0 cr, .slice Av 2 k1, .slice D 2 k2, .slice E 0 k3, .slice Pa 2 kp, .slice Ta 2 kt], .agg #[.int .i64 2, .int .i64 3]] w (AddX bx p2 e2 w) :=
  (refAdd12_2 (fun b => b < w.heap.size ∧ b ≠ bx) [] c2 e2 e2 A S F Av D E Pa Ta 4 8 8 cr k1 k2 k3 kp kt twoK 2 3 2 3 0 1 [2] w hk (by decide) (by decide) hG (fun _ h => h.1) (by decide) rfl rfl (by decide) (by decide) cl2 (by decide) rep_2 rep_3 n13_2 n13_3 (by decide) (by decide) (by decide) (by decide)
    (fun A' c' U _ _ => refLay12_nil A' c' 2 U)).mono fun e w' ⟨F, A, D, E, Pa, Ta, cr, k1, k2, k3, kp, kt, v, h, hG, q⟩ => ⟨F, A, D, E, Pa, Ta, cr, k1, k2, k3, kp, kt, v, h, GRQ.to hG (agree_q (P := fun b => (b < w.heap.size ∧ b ≠ bx) ∨ w.heap.size ≤ b) (Q.refl w')) (fun _ h1 h2 => ⟨h2, h1.elim (fun h => h.2) (fun h => by omega)⟩), q⟩
theorem add13_32 (bx : Nat) (A S F Av D E Pa Ta : Option Addr) (cr k1 k2 k3 kp kt : Nat) (w : World) (hk : Keys w w.heap.size A twoK) (hb : bx < w.heap.size) (hG : GRX w bx p2 e2 F Av D E Pa Ta k1 k2 k3) :
    Calls Tryz.prog 55 #[.agg #[.slice A 4 4, .slice S 8 8], .agg #[.slice F 0 cr, .slice Av 2 k1, .slice D 2 k2, .slice E 0 k3, .slice Pa 2 kp, .slice Ta 2 kt], .agg #[.int .i64 3, .int .i64 2]] w (AddX bx p2 p2 w) :=
  (refAdd12_1 (fun b => b < w.heap.size ∧ b ≠ bx) [] c2 p2 e2 A S F Av D E Pa Ta 4 8 8 cr k1 k2 k3 kp kt twoK 3 2 3 2 1 0 [2] w hk (by decide) (by decide) hG (fun _ h => h.1) (by decide) rfl rfl (by decide) (by decide) cl2 (by decide) rep_3 rep_2 n13_3 n13_2 (by decide) (by decide) (by decide) (by decide)
    (fun A' c' U _ _ => refLay12_nil A' c' 2 U)).mono fun e w' ⟨F, A, D, E, Pa, Ta, cr, k1, k2, k3, kp, kt, v, h, hG, q⟩ => ⟨F, A, D, E, Pa, Ta, cr, k1, k2, k3, kp, kt, v, h, GRQ.to hG (agree_q (P := fun b => (b < w.heap.size ∧ b ≠ bx) ∨ w.heap.size ≤ b) (Q.refl w')) (fun _ h1 h2 => ⟨h2, h1.elim (fun h => h.2) (fun h => by omega)⟩), q⟩
theorem x13_path : ((pathN c2.V.length (fun a b => eB twoK c2.V p2 p2 (fst c2.V a) b) (fst c2.V 1) (fst c2.V 0) 5).map fun (n : Nat) => (n : Int)) = [1, 0] := by decide
theorem x13_next : nextL twoK c2.V p2 p2 (fst c2.V 0) = [1] := by decide
theorem x13_edges : edgesN twoK c2.V p2 p2 = [(1, 0), (0, 1)] := by decide
theorem path13_ex (bx : Nat) (A S F Av D E Pa Ta : Option Addr) (cr k1 k2 k3 kp kt : Nat) (w : World) (hk : Keys w w.heap.size A twoK) (hG : GRX w bx p2 p2 F Av D E Pa Ta k1 k2 k3) :
    Calls Tryz.prog 22 #[.agg #[.slice A 4 4, .slice S 8 8], .agg #[.slice F 0 cr, .slice Av 2 k1, .slice D 2 k2, .slice E 0 k3, .slice Pa 2 kp, .slice Ta 2 kt], .int .i64 1, .int .i64 0, .int .i64 5] w (RowPost [1, 0] w) := by
  have h := path13p_any [] c2 p2 p2 twoK A S F Av D E Pa Ta 4 8 8 0 cr k1 k2 k3 kp kt 1 0 5 w hk (by decide) (by decide) hG.rd cl2 (by decide) hG.p.keys hG.t.keys rfl rfl (by decide) (by decide) (by rw [x13_edges]; decide) (by decide) (by decide)
  rw [x13_path] at h
  exact h
theorem next13_ex (bx : Nat) (A S F Av D E Pa Ta : Option Addr) (cr k1 k2 k3 kp kt : Nat) (w : World) (hk : Keys w w.heap.size A twoK) (hG : GRX w bx p2 p2 F Av D E Pa Ta k1 k2 k3) :
    Calls Tryz.prog 20 #[.agg #[.slice A 4 4, .slice S 8 8], .agg #[.slice F 0 cr, .slice Av 2 k1, .slice D 2 k2, .slice E 0 k3, .slice Pa 2 kp, .slice Ta 2 kt], .int .i64 0] w (RowPost [1] w) := by
  have h := next13_any [] c2 p2 p2 twoK A S F Av D E Pa Ta 4 8 8 0 cr k1 k2 k3 kp kt 0 w hk (by decide) (by decide) hG.rd cl2 (by decide) hG.p.keys hG.t.keys rfl rfl (by decide) (by decide) (by rw [x13_edges]; decide) (by decide)
  rw [x13_next] at h
  exact h
end Go.Proofs.YtnifmfdlocgefaaGreat.Ig

namespace Go.Proofs.YtnifmfdlocgefaaGreat.Ig
open Go.RowKit Kit Tr Uf
open Go.Proofs.YtnifmfdlocgefaaGreat.Cy
open Go.Proofs.YtnifmfdlocgefaaGreat.Hs (Keys Ints BoxT layI KeysP IntsP refLay_any)
set_option maxRecDepth 100000 in
set_option maxHeartbeats 8000000 in
theorem shown13_any (w : World) : Calls Tryz.prog 14 #[] w fun e w' => e = .returned (.bool true) ∧ Q w w' := by
  obtain ⟨hk5, hq5⟩ := two_keys w
  have HK := Lib.hid hk5
  have HQ5 := Lib.hid hq5
  clear hk5 hq5
  go_enter Tryz.func14, Tryz.ntmps14
  go_upto_region 2 with fail
  generalize (((((w.alloc (Obj.cells #[.int .i64 0, .int .i64 0, .int .i64 0] 3)).alloc (Obj.cells #[.int .i64 1, .int .i64 0, .int .i64 0] 3)).alloc (Obj.cells #[.int .i64 2, .int .i64 0, .int .i64 0] 3)).alloc (Obj.cells #[.int .i64 2, .int .i64 1, .int .i64 0] 3)).alloc (Obj.cells #[.slice (some ⟨w.heap.size, 0, none⟩) 3 3, .slice (some ⟨(w.heap.size + 1), 0, none⟩) 3 3, .slice (some ⟨(w.heap.size + 1 + 1), 0, none⟩) 3 3, .slice (some ⟨(w.heap.size + 1 + 1 + 1), 0, none⟩) 3 3] 24)) = X5 at *
  have CL := Lib.hid (refLay_any (some ⟨(w.heap.size + 1 + 1 + 1 + 1), 0, none⟩) 4 4 twoK X5 rfl HK.out.keys (by decide) (by decide))
  go_upto_region 3 with (go_at_call 54; refine CL.out.mono ?_; rintro e w1 ⟨g, rfl, hg, hO, q1⟩; rw [size_two]; have HQ1 := Lib.hid (HQ5.out.trans q1); have HK1 := Lib.hid ((HK.out.q q1).keys); clear hO hg q1)
  clear HK CL
  generalize (some (⟨(w.heap.size + 1 + 1 + 1 + 1), 0, none⟩ : Addr)) = A1 at *
  generalize (some (⟨g, 0, none⟩ : Addr)) = S1 at *
  have HB := Lib.hid (BoxT.new w1 (.slice A1 4 4) (.slice S1 8 8) 26)
  have HQ2 := Lib.hid (HQ1.out.alloc (Obj.cells #[.slice A1 4 4, .slice S1 8 8] 26))
  have HKK0 := Lib.hid ((HK1.out.q (Nat.le_refl _) ((Q.refl w1).alloc (Obj.cells #[.slice A1 4 4, .slice S1 8 8] 26))).more ((Q.refl w1).alloc (Obj.cells #[.slice A1 4 4, .slice S1 8 8] 26)).size)
  clear HQ5 HK1
  generalize w1.alloc (Obj.cells #[.slice A1 4 4, .slice S1 8 8] 26) = W0 at *
  generalize w1.heap.size = B at *
  have HBl : Hid (B < W0.heap.size) := HB.out.lt
  have HKK : Hid (∀ U, Q W0 U → Hs.Keys U U.heap.size A1 twoK) := fun U q => (HKK0.out.q (Nat.le_refl _) q).more q.size
  have ALL : Hid (∀ U, Q W0 U → U.cell? ⟨B, 0, none⟩ = some (.slice A1 4 4) ∧ U.cell? ⟨B, 1, none⟩ = some (.slice S1 8 8)) := fun U q => ⟨(HB.out.q q).c0, (HB.out.q q).c1⟩
  refine begin_t (S := fun U => U.cell? ⟨B, 0, none⟩ = some (.slice A1 4 4) ∧ U.cell? ⟨B, 1, none⟩ = some (.slice S1 8 8)) (z := 3) (by kernel_rfl) ?_ (fun hHeld => ?_)
  · exact ALL.out _ (Q.refl W0).drew
  refine take_t (i := 0) (d := some 21) (v := ?_) rfl (by kernel_rfl) (by kernel_rfl) (by kernel_rfl) (by kernel_rfl) (fun _ _ _ h => h) rfl (by rfl) ?_ (by assumption) ?_
  rotate_left
  · (intro w hSw; (try dsimp only at hSw); go_simp; (try with_reducible rfl))
  try simp only [Act.put, List.setIfInBounds_toArray, List.set_cons_zero, List.set_cons_succ]
  refine take_y (i := 2) (d := some 23) (v := ?_) rfl (by kernel_rfl) (by kernel_rfl) (by kernel_rfl) (by kernel_rfl) (fun _ _ _ h => h) rfl (by rfl) ?_ (by assumption) ?_
  rotate_left
  · (intro w; go_simp; (try with_reducible rfl))
  try simp only [Act.put, List.setIfInBounds_toArray, List.set_cons_zero, List.set_cons_succ]
  refine both_t (i := 1) (j := 8) rfl rfl (by kernel_rfl) (by rfl) (by rfl) (fun K hK => ?_) (fun K hK => ?_)
  · go_simp
    go_at_call 56
    refine (new13_ex B _ (show B < W0.drew.heap.size from HBl.out)).mono ?_
    rintro e wN ⟨AN, DN, EN, PN, TN, kN1, kN2, kN3, kpN, ktN, rfl, hG, q⟩
    unfold gv2
    have HGN := Lib.hid hG
    have HQN : Hid (Q W0 wN) := Lib.hid ((Q.refl W0).drew.trans q)
    clear hG q
    have hHeld : ((fun U => U.cell? ⟨B, 0, none⟩ = some (.slice A1 4 4) ∧ U.cell? ⟨B, 1, none⟩ = some (.slice S1 8 8)) : World → Prop) _ := ALL.out _ HQN.out
    refine hK.out _ _ (fun _ => hHeld) ?_
    clear hK K
    try simp only [Act.put, List.setIfInBounds_toArray, List.set_cons_zero, List.set_cons_succ]
    refine both_t (i := 3) (j := 8) rfl rfl (by kernel_rfl) (by rfl) (by rfl) (fun K hK => ?_) (fun K hK => ?_)
    · go_simp
      go_at_call 55
      refine (add13_23 B A1 S1 none AN DN EN PN TN 0 kN1 kN2 kN3 kpN ktN _ (HKK.out _ HQN.out) (Nat.lt_of_lt_of_le HBl.out HQN.out.size) HGN.out).mono ?_
      rintro e wA ⟨Fg, Ag, Dg, Eg, Pg, Tg, crg, kg1, kg2, kg3, kpg, ktg, vg, rfl, hG, q⟩
      unfold gv2
      have HGg := Lib.hid hG
      have HQA : Hid (Q W0 wA) := Lib.hid (HQN.out.trans q)
      have HQa := Lib.hid q
      clear hG q
      have hHeld : ((fun U => U.cell? ⟨B, 0, none⟩ = some (.slice A1 4 4) ∧ U.cell? ⟨B, 1, none⟩ = some (.slice S1 8 8)) : World → Prop) _ := ALL.out _ HQA.out
      refine hK.out _ _ (fun _ => hHeld) ?_
      clear hK K
      try simp only [Act.put, List.setIfInBounds_toArray, List.set_cons_zero, List.set_cons_succ]
      refine take_y (i := 4) (d := some 20) (v := ?_) rfl (by kernel_rfl) (by kernel_rfl) (by kernel_rfl) (by kernel_rfl) (fun _ _ _ h => h) rfl (by rfl) ?_ (by assumption) ?_
      rotate_left
      · (intro w; go_simp; (try with_reducible rfl))
      try simp only [Act.put, List.setIfInBounds_toArray, List.set_cons_zero, List.set_cons_succ]
      refine take_y (i := 5) (d := some 25) (v := ?_) rfl (by kernel_rfl) (by kernel_rfl) (by kernel_rfl) (by kernel_rfl) (fun _ _ _ h => h) rfl (by rfl) ?_ (by assumption) ?_
      rotate_left
      · (intro w; go_simp; (try with_reducible rfl))
      try simp only [Act.put, List.setIfInBounds_toArray, List.set_cons_zero, List.set_cons_succ]
      refine take_y (i := 6) (d := some 26) (v := ?_) rfl (by kernel_rfl) (by kernel_rfl) (by kernel_rfl) (by kernel_rfl) (fun _ _ _ h => h) rfl (by rfl) ?_ (by assumption) ?_
      rotate_left
      · (intro w; go_simp; (try with_reducible rfl))
      try simp only [Act.put, List.setIfInBounds_toArray, List.set_cons_zero, List.set_cons_succ]
      refine take_y (i := 7) (d := some 27) (v := ?_) rfl (by kernel_rfl) (by kernel_rfl) (by kernel_rfl) (by kernel_rfl) (fun _ _ _ h => h) rfl (by rfl) ?_ (by assumption) ?_
      rotate_left
      · (intro w; go_simp; (try with_reducible rfl))
      try simp only [Act.put, List.setIfInBounds_toArray, List.set_cons_zero, List.set_cons_succ]
      refine call_t (i := 8) rfl (by kernel_rfl) (by rfl) (fun K hK => ?_)
      go_simp
      have hHeld : ((fun U => U.cell? ⟨B, 0, none⟩ = some (.slice A1 4 4) ∧ U.cell? ⟨B, 1, none⟩ = some (.slice S1 8 8)) : World → Prop) _ := ALL.out _ (HQA.out.alloc (Obj.cells #[.slice none 0 0, .slice none 0 0, .slice none 0 0, .slice none 0 0, .slice none 0 0, .slice none 0 0] 31))
      refine hK.out _ _ (fun _ => hHeld) ?_
      clear hK K
      try simp only [Act.put, List.setIfInBounds_toArray, List.set_cons_zero, List.set_cons_succ]
      have hx : BoxW (wA.alloc (Obj.cells #[.slice none 0 0, .slice none 0 0, .slice none 0 0, .slice none 0 0, .slice none 0 0, .slice none 0 0] 31)) (wA.heap.size) (.slice none 0 0) (.slice none 0 0) (.slice none 0 0) (.slice none 0 0) (.slice none 0 0) (.slice none 0 0) := BoxW.new wA (.slice none 0 0) (.slice none 0 0) (.slice none 0 0) (.slice none 0 0) (.slice none 0 0) (.slice none 0 0) 31
      have HX := Lib.hid hx
      have x0 := hx.c.c0
      have x1 := hx.c.c1
      have x2 := hx.c.c2
      have x3 := hx.c.c3
      have x4 := hx.c.c4
      have x5 := hx.c.c5
      have xf0 := hx.f0
      have xf1 := hx.f1
      have xf2 := hx.f2
      have xf3 := hx.f3
      have xf4 := hx.f4
      have xf5 := hx.f5
      have HQW : Hid (Q W0 (wA.alloc (Obj.cells #[.slice none 0 0, .slice none 0 0, .slice none 0 0, .slice none 0 0, .slice none 0 0, .slice none 0 0] 31))) := Lib.hid (HQA.out.alloc (Obj.cells #[.slice none 0 0, .slice none 0 0, .slice none 0 0, .slice none 0 0, .slice none 0 0, .slice none 0 0] 31))
      have HGW : Hid (GRX (wA.alloc (Obj.cells #[.slice none 0 0, .slice none 0 0, .slice none 0 0, .slice none 0 0, .slice none 0 0, .slice none 0 0] 31)) (wA.heap.size) p2 e2 Fg Ag Dg Eg Pg Tg kg1 kg2 kg3) := Lib.hid (HGg.out.box ((Q.refl wA).alloc (Obj.cells #[.slice none 0 0, .slice none 0 0, .slice none 0 0, .slice none 0 0, .slice none 0 0, .slice none 0 0] 31)))
      clear hx
      refine call_t (i := 9) rfl (by kernel_rfl) (by rfl) (fun K hK => ?_)
      go_simp
      refine hK.out _ _ (fun hz => by cases hz) ?_
      clear hK K
      try simp only [Act.put, List.setIfInBounds_toArray, List.set_cons_zero, List.set_cons_succ]
      clear x0 x1 x2 x3 x4 x5 xf0 xf1 xf2 xf3 xf4 xf5
      refine call_t (i := 10) rfl (by kernel_rfl) (by rfl) (fun K hK => ?_)
      go_simp
      refine hK.out _ _ (fun hz => by cases hz) ?_
      clear hK K
      try simp only [Act.put, List.setIfInBounds_toArray, List.set_cons_zero, List.set_cons_succ]
      refine call_t (i := 11) rfl (by kernel_rfl) (by rfl) (fun K hK => ?_)
      go_simp
      refine hK.out _ _ (fun hz => by cases hz) ?_
      clear hK K
      try simp only [Act.put, List.setIfInBounds_toArray, List.set_cons_zero, List.set_cons_succ]
      refine done_t (by kernel_rfl) ?_ _
      have hY : Hid (Box6 (wA.alloc (Obj.cells #[.slice Fg 0 crg, .slice Ag 2 kg1, .slice Dg 2 kg2, .slice Eg 0 kg3, .slice Pg 2 kpg, .slice Tg 2 ktg] 31)) wA.heap.size (.slice Fg 0 crg) (.slice Ag 2 kg1) (.slice Dg 2 kg2) (.slice Eg 0 kg3) (.slice Pg 2 kpg) (.slice Tg 2 ktg)) := Lib.hid (Box6.new wA (.slice Fg 0 crg) (.slice Ag 2 kg1) (.slice Dg 2 kg2) (.slice Eg 0 kg3) (.slice Pg 2 kpg) (.slice Tg 2 ktg) 31)
      have HQ4 : Hid (Q W0 (wA.alloc (Obj.cells #[.slice Fg 0 crg, .slice Ag 2 kg1, .slice Dg 2 kg2, .slice Eg 0 kg3, .slice Pg 2 kpg, .slice Tg 2 ktg] 31))) := Lib.hid (HQA.out.alloc (Obj.cells #[.slice Fg 0 crg, .slice Ag 2 kg1, .slice Dg 2 kg2, .slice Eg 0 kg3, .slice Pg 2 kpg, .slice Tg 2 ktg] 31))
      have HG4 : Hid (GRX (wA.alloc (Obj.cells #[.slice Fg 0 crg, .slice Ag 2 kg1, .slice Dg 2 kg2, .slice Eg 0 kg3, .slice Pg 2 kpg, .slice Tg 2 ktg] 31)) wA.heap.size p2 e2 Fg Ag Dg Eg Pg Tg kg1 kg2 kg3) := Lib.hid (HGg.out.box ((Q.refl wA).alloc (Obj.cells #[.slice Fg 0 crg, .slice Ag 2 kg1, .slice Dg 2 kg2, .slice Eg 0 kg3, .slice Pg 2 kpg, .slice Tg 2 ktg] 31)))
      have HBx : Hid (wA.heap.size < (wA.alloc (Obj.cells #[.slice Fg 0 crg, .slice Ag 2 kg1, .slice Dg 2 kg2, .slice Eg 0 kg3, .slice Pg 2 kpg, .slice Tg 2 ktg] 31)).heap.size) := by unfold Hid; simp
      clear HX HQW HGW
      generalize wA.alloc (Obj.cells #[.slice Fg 0 crg, .slice Ag 2 kg1, .slice Dg 2 kg2, .slice Eg 0 kg3, .slice Pg 2 kpg, .slice Tg 2 ktg] 31) = W4 at *
      generalize wA.heap.size = bx at *
      obtain ⟨s0, s1⟩ := ALL.out W4 HQ4.out
      have y0 := hY.out.c0
      have y1 := hY.out.c1
      have y2 := hY.out.c2
      have y3 := hY.out.c3
      have y4 := hY.out.c4
      have y5 := hY.out.c5
      go_upto_region 5 with (go_at_call 55; refine (add13_32 bx A1 S1 Fg Ag Dg Eg Pg Tg crg kg1 kg2 kg3 kpg ktg W4 (HKK.out _ HQ4.out) HBx.out HG4.out).mono ?_; rintro e wB ⟨Fh, Ah, Dh, Eh, Ph, Th, crh, kh1, kh2, kh3, kph, kth, vh, rfl, hG, q⟩; unfold gv2; have HGh := Lib.hid hG; have HQB : Hid (Q W0 wB) := Lib.hid (HQ4.out.trans q); clear hG q s0 s1 y0 y1 y2 y3 y4 y5)
      have hZ : Hid (Box6 (wB.alloc (Obj.cells #[.slice Fh 0 crh, .slice Ah 2 kh1, .slice Dh 2 kh2, .slice Eh 0 kh3, .slice Ph 2 kph, .slice Th 2 kth] 31)) wB.heap.size (.slice Fh 0 crh) (.slice Ah 2 kh1) (.slice Dh 2 kh2) (.slice Eh 0 kh3) (.slice Ph 2 kph) (.slice Th 2 kth)) := Lib.hid (Box6.new wB (.slice Fh 0 crh) (.slice Ah 2 kh1) (.slice Dh 2 kh2) (.slice Eh 0 kh3) (.slice Ph 2 kph) (.slice Th 2 kth) 31)
      have HQ5 : Hid (Q W0 (wB.alloc (Obj.cells #[.slice Fh 0 crh, .slice Ah 2 kh1, .slice Dh 2 kh2, .slice Eh 0 kh3, .slice Ph 2 kph, .slice Th 2 kth] 31))) := Lib.hid (HQB.out.alloc (Obj.cells #[.slice Fh 0 crh, .slice Ah 2 kh1, .slice Dh 2 kh2, .slice Eh 0 kh3, .slice Ph 2 kph, .slice Th 2 kth] 31))
      have HG5 : Hid (GRX (wB.alloc (Obj.cells #[.slice Fh 0 crh, .slice Ah 2 kh1, .slice Dh 2 kh2, .slice Eh 0 kh3, .slice Ph 2 kph, .slice Th 2 kth] 31)) wB.heap.size p2 p2 Fh Ah Dh Eh Ph Th kh1 kh2 kh3) := Lib.hid (HGh.out.box ((Q.refl wB).alloc (Obj.cells #[.slice Fh 0 crh, .slice Ah 2 kh1, .slice Dh 2 kh2, .slice Eh 0 kh3, .slice Ph 2 kph, .slice Th 2 kth] 31)))
      generalize wB.alloc (Obj.cells #[.slice Fh 0 crh, .slice Ah 2 kh1, .slice Dh 2 kh2, .slice Eh 0 kh3, .slice Ph 2 kph, .slice Th 2 kth] 31) = W5 at *
      generalize wB.heap.size = bh at *
      have AL5 : Hid (∀ U, Q W5 U → (U.cell? ⟨B, 0, none⟩ = some (.slice A1 4 4) ∧ U.cell? ⟨B, 1, none⟩ = some (.slice S1 8 8)) ∧ Box6 U bh (.slice Fh 0 crh) (.slice Ah 2 kh1) (.slice Dh 2 kh2) (.slice Eh 0 kh3) (.slice Ph 2 kph) (.slice Th 2 kth)) := fun U q => ⟨ALL.out U (HQ5.out.trans q), hZ.out.q q⟩
      obtain ⟨⟨s0, s1⟩, ⟨z0, z1, z2, z3, z4, z5⟩⟩ := AL5.out W5 (Q.refl _)
      go_upto_region 6 with (go_at_call 22; refine (path13_ex bh A1 S1 Fh Ah Dh Eh Ph Th crh kh1 kh2 kh3 kph kth W5 (HKK.out _ HQ5.out) HG5.out).mono ?_; rintro e w6 ⟨Ap, cp, rfl, -, hRp, q6⟩; have HRp := Lib.hid hRp; have HQ6 := Lib.hid q6; clear hRp q6 s0 s1 z0 z1 z2 z3 z4 z5)
      obtain ⟨⟨s0, s1⟩, ⟨z0, z1, z2, z3, z4, z5⟩⟩ := AL5.out w6 HQ6.out
      go_upto_region 7 with (go_at_call 20; refine (next13_ex bh A1 S1 Fh Ah Dh Eh Ph Th crh kh1 kh2 kh3 kph kth w6 (HKK.out _ (HQ5.out.trans HQ6.out)) (HG5.out.q HQ6.out)).mono ?_; rintro e w7 ⟨An, cn, rfl, -, hRn, q7⟩; have HRn := Lib.hid hRn; have HQ7 := Lib.hid q7; clear hRn q7 s0 s1 z0 z1 z2 z3 z4 z5)
      obtain ⟨pa, rfl, pb, pc0⟩ := Tr.Rds.int_at HRp.out (show 0 < [(1 : Int), 0].length by decide)
      obtain ⟨pa', hpa, -, pc1⟩ := Tr.Rds.int_at HRp.out (show 1 < [(1 : Int), 0].length by decide)
      injection hpa with hpa
      subst hpa
      obtain ⟨na, rfl, -, nc0⟩ := Tr.Rds.int_at HRn.out (show 0 < [(1 : Int)].length by decide)
      have c0 : w7.cell? pa = some (.int .i64 1) := by rw [show pa.add 0 = pa by simp [Addr.add]] at pc0; exact (HQ7.out.cell pb).trans pc0
      have c1 : w7.cell? ⟨pa.block, pa.off + 1, none⟩ = some (.int .i64 0) := by rw [show pa.add 1 = ⟨pa.block, pa.off + 1, none⟩ by simp [Addr.add]] at pc1; exact (HQ7.out.cell (p := ⟨pa.block, pa.off + 1, none⟩) pb).trans pc1
      have c2' : w7.cell? na = some (.int .i64 1) := by rw [show na.add 0 = na by simp [Addr.add]] at nc0; exact nc0
      clear pc0 pc1 nc0 pb
      go_wp2_with fail
      go_ret
      exact ⟨rfl, HQ2.out.trans (HQ5.out.trans (HQ6.out.trans HQ7.out))⟩
    · go_simp
      have hHeld : ((fun U => U.cell? ⟨B, 0, none⟩ = some (.slice A1 4 4) ∧ U.cell? ⟨B, 1, none⟩ = some (.slice S1 8 8)) : World → Prop) _ := ALL.out _ (HQN.out.alloc (Obj.cells #[.slice none 0 0, .slice none 0 0, .slice none 0 0, .slice none 0 0, .slice none 0 0, .slice none 0 0] 31))
      refine hK.out _ _ (fun _ => hHeld) ?_
      clear hK K
      try simp only [Act.put, List.setIfInBounds_toArray, List.set_cons_zero, List.set_cons_succ]
      refine call_t (i := 3) rfl (by kernel_rfl) (by rfl) (fun K hK => ?_)
      go_simp
      go_at_call 55
      refine (add13_23 wN.heap.size A1 S1 none AN DN EN PN TN 0 kN1 kN2 kN3 kpN ktN _ (HKK.out _ (HQN.out.alloc (Obj.cells #[.slice none 0 0, .slice none 0 0, .slice none 0 0, .slice none 0 0, .slice none 0 0, .slice none 0 0] 31))) (by simp) (HGN.out.box ((Q.refl wN).alloc (Obj.cells #[.slice none 0 0, .slice none 0 0, .slice none 0 0, .slice none 0 0, .slice none 0 0, .slice none 0 0] 31)))).mono ?_
      rintro e wA ⟨Fg, Ag, Dg, Eg, Pg, Tg, crg, kg1, kg2, kg3, kpg, ktg, vg, rfl, hG, q⟩
      unfold gv2
      have HGg := Lib.hid hG
      have HQA : Hid (Q W0 wA) := Lib.hid ((HQN.out.alloc (Obj.cells #[.slice none 0 0, .slice none 0 0, .slice none 0 0, .slice none 0 0, .slice none 0 0, .slice none 0 0] 31)).trans q)
      have HQa := Lib.hid q
      clear hG q
      have hHeld : ((fun U => U.cell? ⟨B, 0, none⟩ = some (.slice A1 4 4) ∧ U.cell? ⟨B, 1, none⟩ = some (.slice S1 8 8)) : World → Prop) _ := ALL.out _ HQA.out
      refine hK.out _ _ (fun _ => hHeld) ?_
      clear hK K
      try simp only [Act.put, List.setIfInBounds_toArray, List.set_cons_zero, List.set_cons_succ]
      refine take_y (i := 4) (d := some 20) (v := ?_) rfl (by kernel_rfl) (by kernel_rfl) (by kernel_rfl) (by kernel_rfl) (fun _ _ _ h => h) rfl (by rfl) ?_ (by assumption) ?_
      rotate_left
      · (intro w; go_simp; (try with_reducible rfl))
      try simp only [Act.put, List.setIfInBounds_toArray, List.set_cons_zero, List.set_cons_succ]
      refine take_y (i := 5) (d := some 25) (v := ?_) rfl (by kernel_rfl) (by kernel_rfl) (by kernel_rfl) (by kernel_rfl) (fun _ _ _ h => h) rfl (by rfl) ?_ (by assumption) ?_
      rotate_left
      · (intro w; go_simp; (try with_reducible rfl))
      try simp only [Act.put, List.setIfInBounds_toArray, List.set_cons_zero, List.set_cons_succ]
      refine take_y (i := 6) (d := some 26) (v := ?_) rfl (by kernel_rfl) (by kernel_rfl) (by kernel_rfl) (by kernel_rfl) (fun _ _ _ h => h) rfl (by rfl) ?_ (by assumption) ?_
      rotate_left
      · (intro w; go_simp; (try with_reducible rfl))
      try simp only [Act.put, List.setIfInBounds_toArray, List.set_cons_zero, List.set_cons_succ]
      refine take_y (i := 7) (d := some 27) (v := ?_) rfl (by kernel_rfl) (by kernel_rfl) (by kernel_rfl) (by kernel_rfl) (fun _ _ _ h => h) rfl (by rfl) ?_ (by assumption) ?_
      rotate_left
      · (intro w; go_simp; (try with_reducible rfl))
      try simp only [Act.put, List.setIfInBounds_toArray, List.set_cons_zero, List.set_cons_succ]
      have hx : BoxW (wA) (wN.heap.size) (.slice none 0 0) (.slice none 0 0) (.slice none 0 0) (.slice none 0 0) (.slice none 0 0) (.slice none 0 0) := (BoxW.new wN (.slice none 0 0) (.slice none 0 0) (.slice none 0 0) (.slice none 0 0) (.slice none 0 0) (.slice none 0 0) 31).q HQa.out
      have HX := Lib.hid hx
      have x0 := hx.c.c0
      have x1 := hx.c.c1
      have x2 := hx.c.c2
      have x3 := hx.c.c3
      have x4 := hx.c.c4
      have x5 := hx.c.c5
      have xf0 := hx.f0
      have xf1 := hx.f1
      have xf2 := hx.f2
      have xf3 := hx.f3
      have xf4 := hx.f4
      have xf5 := hx.f5
      have HQW : Hid (Q W0 (wA)) := Lib.hid (HQA.out)
      have HGW : Hid (GRX (wA) (wN.heap.size) p2 e2 Fg Ag Dg Eg Pg Tg kg1 kg2 kg3) := Lib.hid (HGg.out)
      clear hx
      refine call_t (i := 9) rfl (by kernel_rfl) (by rfl) (fun K hK => ?_)
      go_simp
      refine hK.out _ _ (fun hz => by cases hz) ?_
      clear hK K
      try simp only [Act.put, List.setIfInBounds_toArray, List.set_cons_zero, List.set_cons_succ]
      clear x0 x1 x2 x3 x4 x5 xf0 xf1 xf2 xf3 xf4 xf5
      refine call_t (i := 10) rfl (by kernel_rfl) (by rfl) (fun K hK => ?_)
      go_simp
      refine hK.out _ _ (fun hz => by cases hz) ?_
      clear hK K
      try simp only [Act.put, List.setIfInBounds_toArray, List.set_cons_zero, List.set_cons_succ]
      refine call_t (i := 11) rfl (by kernel_rfl) (by rfl) (fun K hK => ?_)
      go_simp
      refine hK.out _ _ (fun hz => by cases hz) ?_
      clear hK K
      try simp only [Act.put, List.setIfInBounds_toArray, List.set_cons_zero, List.set_cons_succ]
      refine done_t (by kernel_rfl) ?_ _
      have gw := set6_grown (wA) (wN.heap.size) (.slice Fg 0 crg) (.slice Ag 2 kg1) (.slice Dg 2 kg2) (.slice Eg 0 kg3) (.slice Pg 2 kpg) (.slice Tg 2 ktg)
      have hY : Hid (Box6 ((((((wA.setCell ⟨wN.heap.size, 0, none⟩ (.slice Fg 0 crg)).setCell ⟨wN.heap.size, 1, none⟩ (.slice Ag 2 kg1)).setCell ⟨wN.heap.size, 2, none⟩ (.slice Dg 2 kg2)).setCell ⟨wN.heap.size, 3, none⟩ (.slice Eg 0 kg3)).setCell ⟨wN.heap.size, 4, none⟩ (.slice Pg 2 kpg)).setCell ⟨wN.heap.size, 5, none⟩ (.slice Tg 2 ktg)) (wN.heap.size) (.slice Fg 0 crg) (.slice Ag 2 kg1) (.slice Dg 2 kg2) (.slice Eg 0 kg3) (.slice Pg 2 kpg) (.slice Tg 2 ktg)) := Lib.hid (HX.out.set (.slice Fg 0 crg) (.slice Ag 2 kg1) (.slice Dg 2 kg2) (.slice Eg 0 kg3) (.slice Pg 2 kpg) (.slice Tg 2 ktg)).c
      have HQ4 : Hid (Q W0 ((((((wA.setCell ⟨wN.heap.size, 0, none⟩ (.slice Fg 0 crg)).setCell ⟨wN.heap.size, 1, none⟩ (.slice Ag 2 kg1)).setCell ⟨wN.heap.size, 2, none⟩ (.slice Dg 2 kg2)).setCell ⟨wN.heap.size, 3, none⟩ (.slice Eg 0 kg3)).setCell ⟨wN.heap.size, 4, none⟩ (.slice Pg 2 kpg)).setCell ⟨wN.heap.size, 5, none⟩ (.slice Tg 2 ktg))) := Lib.hid (grown_q gw HQW.out (HQN.out.size))
      have HG4 : Hid (GRX ((((((wA.setCell ⟨wN.heap.size, 0, none⟩ (.slice Fg 0 crg)).setCell ⟨wN.heap.size, 1, none⟩ (.slice Ag 2 kg1)).setCell ⟨wN.heap.size, 2, none⟩ (.slice Dg 2 kg2)).setCell ⟨wN.heap.size, 3, none⟩ (.slice Eg 0 kg3)).setCell ⟨wN.heap.size, 4, none⟩ (.slice Pg 2 kpg)).setCell ⟨wN.heap.size, 5, none⟩ (.slice Tg 2 ktg)) (wN.heap.size) p2 e2 Fg Ag Dg Eg Pg Tg kg1 kg2 kg3) := Lib.hid (GRQ.to HGW.out (agree_grown (P := fun b' => b' < wA.heap.size ∧ b' ≠ wN.heap.size) gw (fun h => h.2 rfl)) (fun _ h1 _ => ⟨Nat.lt_of_lt_of_le h1.1 gw.size, h1.2⟩))
      have HBx : Hid (wN.heap.size < ((((((wA.setCell ⟨wN.heap.size, 0, none⟩ (.slice Fg 0 crg)).setCell ⟨wN.heap.size, 1, none⟩ (.slice Ag 2 kg1)).setCell ⟨wN.heap.size, 2, none⟩ (.slice Dg 2 kg2)).setCell ⟨wN.heap.size, 3, none⟩ (.slice Eg 0 kg3)).setCell ⟨wN.heap.size, 4, none⟩ (.slice Pg 2 kpg)).setCell ⟨wN.heap.size, 5, none⟩ (.slice Tg 2 ktg)).heap.size) := Lib.hid (Nat.lt_of_lt_of_le (by have := HQa.out.size; simp at this; omega) gw.size)
      clear HX HQW HGW gw
      generalize ((((((wA.setCell ⟨wN.heap.size, 0, none⟩ (.slice Fg 0 crg)).setCell ⟨wN.heap.size, 1, none⟩ (.slice Ag 2 kg1)).setCell ⟨wN.heap.size, 2, none⟩ (.slice Dg 2 kg2)).setCell ⟨wN.heap.size, 3, none⟩ (.slice Eg 0 kg3)).setCell ⟨wN.heap.size, 4, none⟩ (.slice Pg 2 kpg)).setCell ⟨wN.heap.size, 5, none⟩ (.slice Tg 2 ktg)) = W4 at *
      generalize wN.heap.size = bx at *
      obtain ⟨s0, s1⟩ := ALL.out W4 HQ4.out
      have y0 := hY.out.c0
      have y1 := hY.out.c1
      have y2 := hY.out.c2
      have y3 := hY.out.c3
      have y4 := hY.out.c4
      have y5 := hY.out.c5
      go_upto_region 5 with (go_at_call 55; refine (add13_32 bx A1 S1 Fg Ag Dg Eg Pg Tg crg kg1 kg2 kg3 kpg ktg W4 (HKK.out _ HQ4.out) HBx.out HG4.out).mono ?_; rintro e wB ⟨Fh, Ah, Dh, Eh, Ph, Th, crh, kh1, kh2, kh3, kph, kth, vh, rfl, hG, q⟩; unfold gv2; have HGh := Lib.hid hG; have HQB : Hid (Q W0 wB) := Lib.hid (HQ4.out.trans q); clear hG q s0 s1 y0 y1 y2 y3 y4 y5)
      have hZ : Hid (Box6 (wB.alloc (Obj.cells #[.slice Fh 0 crh, .slice Ah 2 kh1, .slice Dh 2 kh2, .slice Eh 0 kh3, .slice Ph 2 kph, .slice Th 2 kth] 31)) wB.heap.size (.slice Fh 0 crh) (.slice Ah 2 kh1) (.slice Dh 2 kh2) (.slice Eh 0 kh3) (.slice Ph 2 kph) (.slice Th 2 kth)) := Lib.hid (Box6.new wB (.slice Fh 0 crh) (.slice Ah 2 kh1) (.slice Dh 2 kh2) (.slice Eh 0 kh3) (.slice Ph 2 kph) (.slice Th 2 kth) 31)
      have HQ5 : Hid (Q W0 (wB.alloc (Obj.cells #[.slice Fh 0 crh, .slice Ah 2 kh1, .slice Dh 2 kh2, .slice Eh 0 kh3, .slice Ph 2 kph, .slice Th 2 kth] 31))) := Lib.hid (HQB.out.alloc (Obj.cells #[.slice Fh 0 crh, .slice Ah 2 kh1, .slice Dh 2 kh2, .slice Eh 0 kh3, .slice Ph 2 kph, .slice Th 2 kth] 31))
      have HG5 : Hid (GRX (wB.alloc (Obj.cells #[.slice Fh 0 crh, .slice Ah 2 kh1, .slice Dh 2 kh2, .slice Eh 0 kh3, .slice Ph 2 kph, .slice Th 2 kth] 31)) wB.heap.size p2 p2 Fh Ah Dh Eh Ph Th kh1 kh2 kh3) := Lib.hid (HGh.out.box ((Q.refl wB).alloc (Obj.cells #[.slice Fh 0 crh, .slice Ah 2 kh1, .slice Dh 2 kh2, .slice Eh 0 kh3, .slice Ph 2 kph, .slice Th 2 kth] 31)))
      generalize wB.alloc (Obj.cells #[.slice Fh 0 crh, .slice Ah 2 kh1, .slice Dh 2 kh2, .slice Eh 0 kh3, .slice Ph 2 kph, .slice Th 2 kth] 31) = W5 at *
      generalize wB.heap.size = bh at *
      have AL5 : Hid (∀ U, Q W5 U → (U.cell? ⟨B, 0, none⟩ = some (.slice A1 4 4) ∧ U.cell? ⟨B, 1, none⟩ = some (.slice S1 8 8)) ∧ Box6 U bh (.slice Fh 0 crh) (.slice Ah 2 kh1) (.slice Dh 2 kh2) (.slice Eh 0 kh3) (.slice Ph 2 kph) (.slice Th 2 kth)) := fun U q => ⟨ALL.out U (HQ5.out.trans q), hZ.out.q q⟩
      obtain ⟨⟨s0, s1⟩, ⟨z0, z1, z2, z3, z4, z5⟩⟩ := AL5.out W5 (Q.refl _)
      go_upto_region 6 with (go_at_call 22; refine (path13_ex bh A1 S1 Fh Ah Dh Eh Ph Th crh kh1 kh2 kh3 kph kth W5 (HKK.out _ HQ5.out) HG5.out).mono ?_; rintro e w6 ⟨Ap, cp, rfl, -, hRp, q6⟩; have HRp := Lib.hid hRp; have HQ6 := Lib.hid q6; clear hRp q6 s0 s1 z0 z1 z2 z3 z4 z5)
      obtain ⟨⟨s0, s1⟩, ⟨z0, z1, z2, z3, z4, z5⟩⟩ := AL5.out w6 HQ6.out
      go_upto_region 7 with (go_at_call 20; refine (next13_ex bh A1 S1 Fh Ah Dh Eh Ph Th crh kh1 kh2 kh3 kph kth w6 (HKK.out _ (HQ5.out.trans HQ6.out)) (HG5.out.q HQ6.out)).mono ?_; rintro e w7 ⟨An, cn, rfl, -, hRn, q7⟩; have HRn := Lib.hid hRn; have HQ7 := Lib.hid q7; clear hRn q7 s0 s1 z0 z1 z2 z3 z4 z5)
      obtain ⟨pa, rfl, pb, pc0⟩ := Tr.Rds.int_at HRp.out (show 0 < [(1 : Int), 0].length by decide)
      obtain ⟨pa', hpa, -, pc1⟩ := Tr.Rds.int_at HRp.out (show 1 < [(1 : Int), 0].length by decide)
      injection hpa with hpa
      subst hpa
      obtain ⟨na, rfl, -, nc0⟩ := Tr.Rds.int_at HRn.out (show 0 < [(1 : Int)].length by decide)
      have c0 : w7.cell? pa = some (.int .i64 1) := by rw [show pa.add 0 = pa by simp [Addr.add]] at pc0; exact (HQ7.out.cell pb).trans pc0
      have c1 : w7.cell? ⟨pa.block, pa.off + 1, none⟩ = some (.int .i64 0) := by rw [show pa.add 1 = ⟨pa.block, pa.off + 1, none⟩ by simp [Addr.add]] at pc1; exact (HQ7.out.cell (p := ⟨pa.block, pa.off + 1, none⟩) pb).trans pc1
      have c2' : w7.cell? na = some (.int .i64 1) := by rw [show na.add 0 = na by simp [Addr.add]] at nc0; exact nc0
      clear pc0 pc1 nc0 pb
      go_wp2_with fail
      go_ret
      exact ⟨rfl, HQ2.out.trans (HQ5.out.trans (HQ6.out.trans HQ7.out))⟩
  · go_simp
    have hHeld : ((fun U => U.cell? ⟨B, 0, none⟩ = some (.slice A1 4 4) ∧ U.cell? ⟨B, 1, none⟩ = some (.slice S1 8 8)) : World → Prop) _ := ALL.out _ ((Q.refl W0).drew.alloc (Obj.cells #[.slice none 0 0, .slice none 0 0, .slice none 0 0, .slice none 0 0, .slice none 0 0, .slice none 0 0] 31))
    refine hK.out _ _ (fun _ => hHeld) ?_
    clear hK K
    try simp only [Act.put, List.setIfInBounds_toArray, List.set_cons_zero, List.set_cons_succ]
    refine call_t (i := 1) rfl (by kernel_rfl) (by rfl) (fun K hK => ?_)
    go_simp
    go_at_call 56
    refine (new13_ex W0.heap.size _ (by simp)).mono ?_
    rintro e wN ⟨AN, DN, EN, PN, TN, kN1, kN2, kN3, kpN, ktN, rfl, hG, q⟩
    unfold gv2
    have HGN := Lib.hid hG
    have HQn := Lib.hid q
    have HBn : Hid (W0.heap.size < wN.heap.size) := Lib.hid (Nat.lt_of_lt_of_le (by simp) q.size)
    have HQN : Hid (Q W0 wN) := Lib.hid (((Q.refl W0).drew.alloc (Obj.cells #[.slice none 0 0, .slice none 0 0, .slice none 0 0, .slice none 0 0, .slice none 0 0, .slice none 0 0] 31)).trans q)
    clear hG q
    have hHeld : ((fun U => U.cell? ⟨B, 0, none⟩ = some (.slice A1 4 4) ∧ U.cell? ⟨B, 1, none⟩ = some (.slice S1 8 8)) : World → Prop) _ := ALL.out _ HQN.out
    refine hK.out _ _ (fun _ => hHeld) ?_
    clear hK K
    try simp only [Act.put, List.setIfInBounds_toArray, List.set_cons_zero, List.set_cons_succ]
    refine call_t (i := 3) rfl (by kernel_rfl) (by rfl) (fun K hK => ?_)
    go_simp
    go_at_call 55
    refine (add13_23 W0.heap.size A1 S1 none AN DN EN PN TN 0 kN1 kN2 kN3 kpN ktN _ (HKK.out _ HQN.out) HBn.out HGN.out).mono ?_
    rintro e wA ⟨Fg, Ag, Dg, Eg, Pg, Tg, crg, kg1, kg2, kg3, kpg, ktg, vg, rfl, hG, q⟩
    unfold gv2
    have HGg := Lib.hid hG
    have HQA : Hid (Q W0 wA) := Lib.hid (HQN.out.trans q)
    have HQa := Lib.hid q
    clear hG q
    have hHeld : ((fun U => U.cell? ⟨B, 0, none⟩ = some (.slice A1 4 4) ∧ U.cell? ⟨B, 1, none⟩ = some (.slice S1 8 8)) : World → Prop) _ := ALL.out _ HQA.out
    refine hK.out _ _ (fun _ => hHeld) ?_
    clear hK K
    try simp only [Act.put, List.setIfInBounds_toArray, List.set_cons_zero, List.set_cons_succ]
    refine take_y (i := 4) (d := some 20) (v := ?_) rfl (by kernel_rfl) (by kernel_rfl) (by kernel_rfl) (by kernel_rfl) (fun _ _ _ h => h) rfl (by rfl) ?_ (by assumption) ?_
    rotate_left
    · (intro w; go_simp; (try with_reducible rfl))
    try simp only [Act.put, List.setIfInBounds_toArray, List.set_cons_zero, List.set_cons_succ]
    refine take_y (i := 5) (d := some 25) (v := ?_) rfl (by kernel_rfl) (by kernel_rfl) (by kernel_rfl) (by kernel_rfl) (fun _ _ _ h => h) rfl (by rfl) ?_ (by assumption) ?_
    rotate_left
    · (intro w; go_simp; (try with_reducible rfl))
    try simp only [Act.put, List.setIfInBounds_toArray, List.set_cons_zero, List.set_cons_succ]
    refine take_y (i := 6) (d := some 26) (v := ?_) rfl (by kernel_rfl) (by kernel_rfl) (by kernel_rfl) (by kernel_rfl) (fun _ _ _ h => h) rfl (by rfl) ?_ (by assumption) ?_
    rotate_left
    · (intro w; go_simp; (try with_reducible rfl))
    try simp only [Act.put, List.setIfInBounds_toArray, List.set_cons_zero, List.set_cons_succ]
    refine take_y (i := 7) (d := some 27) (v := ?_) rfl (by kernel_rfl) (by kernel_rfl) (by kernel_rfl) (by kernel_rfl) (fun _ _ _ h => h) rfl (by rfl) ?_ (by assumption) ?_
    rotate_left
    · (intro w; go_simp; (try with_reducible rfl))
    try simp only [Act.put, List.setIfInBounds_toArray, List.set_cons_zero, List.set_cons_succ]
    have hx : BoxW (wA) (W0.heap.size) (.slice none 0 0) (.slice none 0 0) (.slice none 0 0) (.slice none 0 0) (.slice none 0 0) (.slice none 0 0) := (BoxW.new W0.drew (.slice none 0 0) (.slice none 0 0) (.slice none 0 0) (.slice none 0 0) (.slice none 0 0) (.slice none 0 0) 31).q (HQn.out.trans HQa.out)
    have HX := Lib.hid hx
    have x0 := hx.c.c0
    have x1 := hx.c.c1
    have x2 := hx.c.c2
    have x3 := hx.c.c3
    have x4 := hx.c.c4
    have x5 := hx.c.c5
    have xf0 := hx.f0
    have xf1 := hx.f1
    have xf2 := hx.f2
    have xf3 := hx.f3
    have xf4 := hx.f4
    have xf5 := hx.f5
    have HQW : Hid (Q W0 (wA)) := Lib.hid (HQA.out)
    have HGW : Hid (GRX (wA) (W0.heap.size) p2 e2 Fg Ag Dg Eg Pg Tg kg1 kg2 kg3) := Lib.hid (HGg.out)
    clear hx
    refine call_t (i := 9) rfl (by kernel_rfl) (by rfl) (fun K hK => ?_)
    go_simp
    refine hK.out _ _ (fun hz => by cases hz) ?_
    clear hK K
    try simp only [Act.put, List.setIfInBounds_toArray, List.set_cons_zero, List.set_cons_succ]
    clear x0 x1 x2 x3 x4 x5 xf0 xf1 xf2 xf3 xf4 xf5
    refine call_t (i := 10) rfl (by kernel_rfl) (by rfl) (fun K hK => ?_)
    go_simp
    refine hK.out _ _ (fun hz => by cases hz) ?_
    clear hK K
    try simp only [Act.put, List.setIfInBounds_toArray, List.set_cons_zero, List.set_cons_succ]
    refine call_t (i := 11) rfl (by kernel_rfl) (by rfl) (fun K hK => ?_)
    go_simp
    refine hK.out _ _ (fun hz => by cases hz) ?_
    clear hK K
    try simp only [Act.put, List.setIfInBounds_toArray, List.set_cons_zero, List.set_cons_succ]
    refine done_t (by kernel_rfl) ?_ _
    have gw := set6_grown (wA) (W0.heap.size) (.slice Fg 0 crg) (.slice Ag 2 kg1) (.slice Dg 2 kg2) (.slice Eg 0 kg3) (.slice Pg 2 kpg) (.slice Tg 2 ktg)
    have hY : Hid (Box6 ((((((wA.setCell ⟨W0.heap.size, 0, none⟩ (.slice Fg 0 crg)).setCell ⟨W0.heap.size, 1, none⟩ (.slice Ag 2 kg1)).setCell ⟨W0.heap.size, 2, none⟩ (.slice Dg 2 kg2)).setCell ⟨W0.heap.size, 3, none⟩ (.slice Eg 0 kg3)).setCell ⟨W0.heap.size, 4, none⟩ (.slice Pg 2 kpg)).setCell ⟨W0.heap.size, 5, none⟩ (.slice Tg 2 ktg)) (W0.heap.size) (.slice Fg 0 crg) (.slice Ag 2 kg1) (.slice Dg 2 kg2) (.slice Eg 0 kg3) (.slice Pg 2 kpg) (.slice Tg 2 ktg)) := Lib.hid (HX.out.set (.slice Fg 0 crg) (.slice Ag 2 kg1) (.slice Dg 2 kg2) (.slice Eg 0 kg3) (.slice Pg 2 kpg) (.slice Tg 2 ktg)).c
    have HQ4 : Hid (Q W0 ((((((wA.setCell ⟨W0.heap.size, 0, none⟩ (.slice Fg 0 crg)).setCell ⟨W0.heap.size, 1, none⟩ (.slice Ag 2 kg1)).setCell ⟨W0.heap.size, 2, none⟩ (.slice Dg 2 kg2)).setCell ⟨W0.heap.size, 3, none⟩ (.slice Eg 0 kg3)).setCell ⟨W0.heap.size, 4, none⟩ (.slice Pg 2 kpg)).setCell ⟨W0.heap.size, 5, none⟩ (.slice Tg 2 ktg))) := Lib.hid (grown_q gw HQW.out (Nat.le_refl _))
    have HG4 : Hid (GRX ((((((wA.setCell ⟨W0.heap.size, 0, none⟩ (.slice Fg 0 crg)).setCell ⟨W0.heap.size, 1, none⟩ (.slice Ag 2 kg1)).setCell ⟨W0.heap.size, 2, none⟩ (.slice Dg 2 kg2)).setCell ⟨W0.heap.size, 3, none⟩ (.slice Eg 0 kg3)).setCell ⟨W0.heap.size, 4, none⟩ (.slice Pg 2 kpg)).setCell ⟨W0.heap.size, 5, none⟩ (.slice Tg 2 ktg)) (W0.heap.size) p2 e2 Fg Ag Dg Eg Pg Tg kg1 kg2 kg3) := Lib.hid (GRQ.to HGW.out (agree_grown (P := fun b' => b' < wA.heap.size ∧ b' ≠ W0.heap.size) gw (fun h => h.2 rfl)) (fun _ h1 _ => ⟨Nat.lt_of_lt_of_le h1.1 gw.size, h1.2⟩))
    have HBx : Hid (W0.heap.size < ((((((wA.setCell ⟨W0.heap.size, 0, none⟩ (.slice Fg 0 crg)).setCell ⟨W0.heap.size, 1, none⟩ (.slice Ag 2 kg1)).setCell ⟨W0.heap.size, 2, none⟩ (.slice Dg 2 kg2)).setCell ⟨W0.heap.size, 3, none⟩ (.slice Eg 0 kg3)).setCell ⟨W0.heap.size, 4, none⟩ (.slice Pg 2 kpg)).setCell ⟨W0.heap.size, 5, none⟩ (.slice Tg 2 ktg)).heap.size) := Lib.hid (Nat.lt_of_lt_of_le (Nat.lt_of_lt_of_le HBn.out HQa.out.size) gw.size)
    clear HX HQW HGW gw
    generalize ((((((wA.setCell ⟨W0.heap.size, 0, none⟩ (.slice Fg 0 crg)).setCell ⟨W0.heap.size, 1, none⟩ (.slice Ag 2 kg1)).setCell ⟨W0.heap.size, 2, none⟩ (.slice Dg 2 kg2)).setCell ⟨W0.heap.size, 3, none⟩ (.slice Eg 0 kg3)).setCell ⟨W0.heap.size, 4, none⟩ (.slice Pg 2 kpg)).setCell ⟨W0.heap.size, 5, none⟩ (.slice Tg 2 ktg)) = W4 at *
    generalize W0.heap.size = bx at *
    obtain ⟨s0, s1⟩ := ALL.out W4 HQ4.out
    have y0 := hY.out.c0
    have y1 := hY.out.c1
    have y2 := hY.out.c2
    have y3 := hY.out.c3
    have y4 := hY.out.c4
    have y5 := hY.out.c5
    go_upto_region 5 with (go_at_call 55; refine (add13_32 bx A1 S1 Fg Ag Dg Eg Pg Tg crg kg1 kg2 kg3 kpg ktg W4 (HKK.out _ HQ4.out) HBx.out HG4.out).mono ?_; rintro e wB ⟨Fh, Ah, Dh, Eh, Ph, Th, crh, kh1, kh2, kh3, kph, kth, vh, rfl, hG, q⟩; unfold gv2; have HGh := Lib.hid hG; have HQB : Hid (Q W0 wB) := Lib.hid (HQ4.out.trans q); clear hG q s0 s1 y0 y1 y2 y3 y4 y5)
    have hZ : Hid (Box6 (wB.alloc (Obj.cells #[.slice Fh 0 crh, .slice Ah 2 kh1, .slice Dh 2 kh2, .slice Eh 0 kh3, .slice Ph 2 kph, .slice Th 2 kth] 31)) wB.heap.size (.slice Fh 0 crh) (.slice Ah 2 kh1) (.slice Dh 2 kh2) (.slice Eh 0 kh3) (.slice Ph 2 kph) (.slice Th 2 kth)) := Lib.hid (Box6.new wB (.slice Fh 0 crh) (.slice Ah 2 kh1) (.slice Dh 2 kh2) (.slice Eh 0 kh3) (.slice Ph 2 kph) (.slice Th 2 kth) 31)
    have HQ5 : Hid (Q W0 (wB.alloc (Obj.cells #[.slice Fh 0 crh, .slice Ah 2 kh1, .slice Dh 2 kh2, .slice Eh 0 kh3, .slice Ph 2 kph, .slice Th 2 kth] 31))) := Lib.hid (HQB.out.alloc (Obj.cells #[.slice Fh 0 crh, .slice Ah 2 kh1, .slice Dh 2 kh2, .slice Eh 0 kh3, .slice Ph 2 kph, .slice Th 2 kth] 31))
    have HG5 : Hid (GRX (wB.alloc (Obj.cells #[.slice Fh 0 crh, .slice Ah 2 kh1, .slice Dh 2 kh2, .slice Eh 0 kh3, .slice Ph 2 kph, .slice Th 2 kth] 31)) wB.heap.size p2 p2 Fh Ah Dh Eh Ph Th kh1 kh2 kh3) := Lib.hid (HGh.out.box ((Q.refl wB).alloc (Obj.cells #[.slice Fh 0 crh, .slice Ah 2 kh1, .slice Dh 2 kh2, .slice Eh 0 kh3, .slice Ph 2 kph, .slice Th 2 kth] 31)))
    generalize wB.alloc (Obj.cells #[.slice Fh 0 crh, .slice Ah 2 kh1, .slice Dh 2 kh2, .slice Eh 0 kh3, .slice Ph 2 kph, .slice Th 2 kth] 31) = W5 at *
    generalize wB.heap.size = bh at *
    have AL5 : Hid (∀ U, Q W5 U → (U.cell? ⟨B, 0, none⟩ = some (.slice A1 4 4) ∧ U.cell? ⟨B, 1, none⟩ = some (.slice S1 8 8)) ∧ Box6 U bh (.slice Fh 0 crh) (.slice Ah 2 kh1) (.slice Dh 2 kh2) (.slice Eh 0 kh3) (.slice Ph 2 kph) (.slice Th 2 kth)) := fun U q => ⟨ALL.out U (HQ5.out.trans q), hZ.out.q q⟩
    obtain ⟨⟨s0, s1⟩, ⟨z0, z1, z2, z3, z4, z5⟩⟩ := AL5.out W5 (Q.refl _)
    go_upto_region 6 with (go_at_call 22; refine (path13_ex bh A1 S1 Fh Ah Dh Eh Ph Th crh kh1 kh2 kh3 kph kth W5 (HKK.out _ HQ5.out) HG5.out).mono ?_; rintro e w6 ⟨Ap, cp, rfl, -, hRp, q6⟩; have HRp := Lib.hid hRp; have HQ6 := Lib.hid q6; clear hRp q6 s0 s1 z0 z1 z2 z3 z4 z5)
    obtain ⟨⟨s0, s1⟩, ⟨z0, z1, z2, z3, z4, z5⟩⟩ := AL5.out w6 HQ6.out
    go_upto_region 7 with (go_at_call 20; refine (next13_ex bh A1 S1 Fh Ah Dh Eh Ph Th crh kh1 kh2 kh3 kph kth w6 (HKK.out _ (HQ5.out.trans HQ6.out)) (HG5.out.q HQ6.out)).mono ?_; rintro e w7 ⟨An, cn, rfl, -, hRn, q7⟩; have HRn := Lib.hid hRn; have HQ7 := Lib.hid q7; clear hRn q7 s0 s1 z0 z1 z2 z3 z4 z5)
    obtain ⟨pa, rfl, pb, pc0⟩ := Tr.Rds.int_at HRp.out (show 0 < [(1 : Int), 0].length by decide)
    obtain ⟨pa', hpa, -, pc1⟩ := Tr.Rds.int_at HRp.out (show 1 < [(1 : Int), 0].length by decide)
    injection hpa with hpa
    subst hpa
    obtain ⟨na, rfl, -, nc0⟩ := Tr.Rds.int_at HRn.out (show 0 < [(1 : Int)].length by decide)
    have c0 : w7.cell? pa = some (.int .i64 1) := by rw [show pa.add 0 = pa by simp [Addr.add]] at pc0; exact (HQ7.out.cell pb).trans pc0
    have c1 : w7.cell? ⟨pa.block, pa.off + 1, none⟩ = some (.int .i64 0) := by rw [show pa.add 1 = ⟨pa.block, pa.off + 1, none⟩ by simp [Addr.add]] at pc1; exact (HQ7.out.cell (p := ⟨pa.block, pa.off + 1, none⟩) pb).trans pc1
    have c2' : w7.cell? na = some (.int .i64 1) := by rw [show na.add 0 = na by simp [Addr.add]] at nc0; exact nc0
    clear pc0 pc1 nc0 pb
    go_wp2_with fail
    go_ret
    exact ⟨rfl, HQ2.out.trans (HQ5.out.trans (HQ6.out.trans HQ7.out))⟩
end Go.Proofs.YtnifmfdlocgefaaGreat.Ig

namespace Go.Proofs.YtnifmfdlocgefaaGreat.Ig
open Go.RowKit Kit Tr Uf
open Go.Proofs.YtnifmfdlocgefaaGreat.Hs (Keys Ints BoxT layI fewB refFew_any few_sum mem_len)
open Go.Proofs.YtnifmfdlocgefaaGreat.Tm (storeB refRight3_any)
def of13B (l : List Sg.Sig) (ks : List (List Int)) (sl : List Int) (R : List Int) (c : Cells) (P T : List (List Int)) : Bool :=
  decide (l.length ≤ 64) && Sg.rightB l && fewB ks sl.length && storeB l ks sl && few12B R c P T && decide (c.V.length ≤ 40) && rightG R ks c P T && allV ks c.V.length

set_option maxRecDepth 100000 in
set_option maxHeartbeats 8000000 in
theorem of13_any (L A S F Av D E Pa Ta : Option Addr) (nl cl n ca m d nr cr n1 k1 n2 k2 n3 k3 np kp nt kt : Nat) (l : List Sg.Sig) (ks : List (List Int)) (sl : List Int) (R : List Int) (c : Cells) (P T : List (List Int)) (w : World) (hnl : nl = l.length) (hr : Sg.Row w w.heap.size L l) (hn : n = ks.length) (hm : m = sl.length) (hk : Keys w w.heap.size A ks) (hS : Ints w w.heap.size S sl)
    (hll : l.length ≤ maxLen) (hsz : Sg.Sized l) (hl : ks.length ≤ 1152921504606846976) (hs : ∀ k ∈ ks, k.length ≤ 1152921504606846976) (hsl : sl.length ≤ 1152921504606846976)
    (hnr : nr = R.length) (h1 : n1 = c.V.length) (h2 : n2 = c.N.length) (h3 : n3 = c.M.length) (hp : np = P.length) (ht : nt = T.length)
    (hR : Tr.Rds w w.heap.size F (cellsI R)) (h : Rd w c Av k1 D k2 E k3) (hP : Keys w w.heap.size Pa P) (hT : Keys w w.heap.size Ta T) (lR : R.length ≤ 1152921504606846976) (lV : c.V.length ≤ 1152921504606846976) (lN : c.N.length ≤ 1152921504606846976) (lM : c.M.length ≤ 1152921504606846976) (lP : P.length ≤ 1152921504606846976) (lT : T.length ≤ 1152921504606846976)
    (sP : ∀ k ∈ P, k.length ≤ 1152921504606846976) (sT : ∀ k ∈ T, k.length ≤ 1152921504606846976) :
    Calls Tryz.prog 15 #[.slice L nl cl, .agg #[.slice A n ca, .slice S m d], .agg #[.slice F nr cr, .slice Av n1 k1, .slice D n2 k2, .slice E n3 k3, .slice Pa np kp, .slice Ta nt kt]] w fun e w' => e = .returned (.bool (of13B l ks sl R c P T)) ∧ Q w w' := by
  subst hnl hn hm hnr h1 h2 h3 hp ht
  have q0 := ((Q.refl w).alloc (Obj.cells #[.slice A ks.length ca, .slice S sl.length d] 26)).alloc (Obj.cells #[.slice F R.length cr, .slice Av c.V.length k1, .slice D c.N.length k2, .slice E c.M.length k3, .slice Pa P.length kp, .slice Ta T.length kt] 31)
  have HBa := Lib.hid ((BoxT.new w (.slice A ks.length ca) (.slice S sl.length d) 26).q ((Q.refl _).alloc (Obj.cells #[.slice F R.length cr, .slice Av c.V.length k1, .slice D c.N.length k2, .slice E c.M.length k3, .slice Pa P.length kp, .slice Ta T.length kt] 31)))
  have X := Box6.new (w.alloc (Obj.cells #[.slice A ks.length ca, .slice S sl.length d] 26)) (.slice F R.length cr) (.slice Av c.V.length k1) (.slice D c.N.length k2) (.slice E c.M.length k3) (.slice Pa P.length kp) (.slice Ta T.length kt) 31
  rw [World.size_alloc] at X
  have HBg := Lib.hid X
  have HQ0 := Lib.hid q0
  have HD : Hid (of13B l ks sl R c P T = (decide (l.length ≤ 64) && Sg.rightB l && fewB ks sl.length && storeB l ks sl && few12B R c P T && decide (c.V.length ≤ 40) && rightG R ks c P T && allV ks c.V.length)) := rfl
  have C2 : Hid (∀ U, Q w U → Calls Tryz.prog 57 #[.slice L l.length cl] U fun e w' => e = .returned (.bool (Sg.rightB l)) ∧ Q U w') := fun U q => (Sg.refRight_any _ _ _ l U rfl ((hr.q (Nat.le_refl _) q).more q.size) hll hsz).mono (by rintro e w' ⟨rfl, rfl⟩; exact ⟨rfl, Q.refl _⟩)
  have C3 : Hid (∀ U, Q w U → Calls Tryz.prog 58 #[.agg #[.slice A ks.length ca, .slice S sl.length d]] U fun e w' => e = .returned (.bool (fewB ks sl.length)) ∧ Q U w') := fun U q => refFew_any _ _ _ _ _ _ ks U rfl ((hk.q (Nat.le_refl _) q).more q.size) hl hs hsl
  have C4 : Hid (fewB ks sl.length = true → ∀ U, Q w U → Calls Tryz.prog 59 #[.slice L l.length cl, .agg #[.slice A ks.length ca, .slice S sl.length d]] U fun e w' => e = .returned (.bool (storeB l ks sl)) ∧ Q U w') := fun hf U q => by
    have hsum := few_sum hf
    exact refRight3_any _ _ _ _ _ _ _ _ _ l ks sl U rfl ((hr.q (Nat.le_refl _) q).more q.size) rfl rfl ((hk.q (Nat.le_refl _) q).more q.size) ((hS.q (Nat.le_refl _) q).more q.size) (fun k hk => by have := mem_len hk; unfold maxLen; omega) (by omega) (by unfold maxLen; omega)
  have C5 : Hid (∀ U, Q w U → Calls Tryz.prog 60 #[.agg #[.slice F R.length cr, .slice Av c.V.length k1, .slice D c.N.length k2, .slice E c.M.length k3, .slice Pa P.length kp, .slice Ta T.length kt]] U fun e w' => e = .returned (.bool (few12B R c P T)) ∧ Q U w') := fun U q => refFew12_any R c P T F Av D E Pa Ta _ cr _ k1 _ k2 _ k3 _ kp _ kt U rfl rfl rfl rfl rfl rfl ((hP.q (Nat.le_refl _) q).more q.size) ((hT.q (Nat.le_refl _) q).more q.size) lR lV lN lM lP lT sP sT
  have C6 : Hid (few12B R c P T = true → ∀ U, Q w U → Calls Tryz.prog 26 #[.agg #[.slice A ks.length ca, .slice S sl.length d], .agg #[.slice F R.length cr, .slice Av c.V.length k1, .slice D c.N.length k2, .slice E c.M.length k3, .slice Pa P.length kp, .slice Ta T.length kt]] U fun e w' => e = .returned (.bool (rightG R ks c P T)) ∧ Q U w') := fun hf U q => by
    obtain ⟨f1, f2, f3, f4, f5, f6⟩ := few12_ok hf
    exact refRightG_any R c A S F Av D E Pa Ta _ ca _ d _ cr _ k1 _ k2 _ k3 _ kp _ kt ks P T U rfl ((hk.q (Nat.le_refl _) q).more q.size) rfl (hR.q q) rfl rfl rfl (h.q q) ⟨by have := f2.1; omega, by have := f2.2.1; omega, by have := f2.2.2; omega⟩ rfl ((hP.q (Nat.le_refl _) q).more q.size) rfl ((hT.q (Nat.le_refl _) q).more q.size) (fun x hx => Nat.le_trans (f5 x hx) (by omega)) (fun x hx => Nat.le_trans (f6 x hx) (by omega))
  have C7 : Hid (fewB ks sl.length = true → few12B R c P T = true → ∀ U, Q w U → Calls Tryz.prog 61 #[.agg #[.slice A ks.length ca, .slice S sl.length d], .agg #[.slice F R.length cr, .slice Av c.V.length k1, .slice D c.N.length k2, .slice E c.M.length k3, .slice Pa P.length kp, .slice Ta T.length kt]] U fun e w' => e = .returned (.bool (allV ks c.V.length)) ∧ Q U w') := fun hf hg U q => by
    have hsum := few_sum hf
    obtain ⟨f1, f2, _⟩ := few12_ok hg
    exact refAllV_any A S Av _ ca _ d _ k1 (.slice F R.length cr) (.slice D c.N.length k2) (.slice E c.M.length k3) (.slice Pa P.length kp) (.slice Ta T.length kt) ks U rfl ((hk.q (Nat.le_refl _) q).more q.size) (by unfold maxLen; omega) (fun k hk => by have := mem_len hk; unfold maxLen; omega) (by have := f2.1; omega)
  clear X q0 hr hk hS hll hsz hl hs hsl hR h hP hT lR lV lN lM lP lT sP sT
  cases h0 : decide (l.length ≤ 64)
  · have HR : Hid (of13B l ks sl R c P T = false) := by unfold Hid; rw [HD.out]; simp [h0]
    have CC2 := Lib.hid (C2.out)
    have d64 : decide ((l.length : Int) ≤ 64) = false := decide_eq_false (by have := of_decide_eq_false h0; omega)
    clear CC2 C2 C3 C4 C5 C6 C7 h0 
    go_enter Tryz.func15, Tryz.ntmps15
    go_upto_region 1 with fail
    generalize (w.alloc (Obj.cells #[.slice A ks.length ca, .slice S sl.length d] 26)).alloc (Obj.cells #[.slice F R.length cr, .slice Av c.V.length k1, .slice D c.N.length k2, .slice E c.M.length k3, .slice Pa P.length kp, .slice Ta T.length kt] 31) = W0 at *
    have ALL : Hid (∀ U, Q W0 U → U.cell? ⟨w.heap.size, 0, none⟩ = some (.slice A ks.length ca) ∧ U.cell? ⟨w.heap.size, 1, none⟩ = some (.slice S sl.length d) ∧ U.cell? ⟨w.heap.size + 1, 0, none⟩ = some (.slice F R.length cr) ∧ U.cell? ⟨w.heap.size + 1, 1, none⟩ = some (.slice Av c.V.length k1) ∧ U.cell? ⟨w.heap.size + 1, 2, none⟩ = some (.slice D c.N.length k2) ∧ U.cell? ⟨w.heap.size + 1, 3, none⟩ = some (.slice E c.M.length k3) ∧ U.cell? ⟨w.heap.size + 1, 4, none⟩ = some (.slice Pa P.length kp) ∧ U.cell? ⟨w.heap.size + 1, 5, none⟩ = some (.slice Ta T.length kt)) := fun U q => by
      have h1 := HBa.out.q q
      have h2 := HBg.out.q q
      exact ⟨h1.c0, h1.c1, h2.c0, h2.c1, h2.c2, h2.c3, h2.c4, h2.c5⟩
    obtain ⟨s0, s1, s2, s3, s4, s5, s6, s7⟩ := ALL.out W0 (Q.refl _)
    have HQ1 : Hid (Q W0 W0) := Lib.hid (Q.refl _)
    go_wp2_with fail
    go_ret
    exact ⟨by rw [HR.out]; rfl, HQ0.out.trans HQ1.out⟩
  · cases h1 : Sg.rightB l
    · have HR : Hid (of13B l ks sl R c P T = false) := by unfold Hid; rw [HD.out]; simp [h0, h1]
      have CC2 := Lib.hid (C2.out)
      have D1 := Lib.hid C2.out
      unfold Hid at D1
      rw [h1] at D1
      have E1 := Lib.hid D1
      have d64 : decide ((l.length : Int) ≤ 64) = true := decide_eq_true (by have := of_decide_eq_true h0; omega)
      clear CC2 C2 C3 C4 C5 C6 C7 h0 h1 D1
      go_enter Tryz.func15, Tryz.ntmps15
      go_upto_region 1 with fail
      generalize (w.alloc (Obj.cells #[.slice A ks.length ca, .slice S sl.length d] 26)).alloc (Obj.cells #[.slice F R.length cr, .slice Av c.V.length k1, .slice D c.N.length k2, .slice E c.M.length k3, .slice Pa P.length kp, .slice Ta T.length kt] 31) = W0 at *
      have ALL : Hid (∀ U, Q W0 U → U.cell? ⟨w.heap.size, 0, none⟩ = some (.slice A ks.length ca) ∧ U.cell? ⟨w.heap.size, 1, none⟩ = some (.slice S sl.length d) ∧ U.cell? ⟨w.heap.size + 1, 0, none⟩ = some (.slice F R.length cr) ∧ U.cell? ⟨w.heap.size + 1, 1, none⟩ = some (.slice Av c.V.length k1) ∧ U.cell? ⟨w.heap.size + 1, 2, none⟩ = some (.slice D c.N.length k2) ∧ U.cell? ⟨w.heap.size + 1, 3, none⟩ = some (.slice E c.M.length k3) ∧ U.cell? ⟨w.heap.size + 1, 4, none⟩ = some (.slice Pa P.length kp) ∧ U.cell? ⟨w.heap.size + 1, 5, none⟩ = some (.slice Ta T.length kt)) := fun U q => by
        have h1 := HBa.out.q q
        have h2 := HBg.out.q q
        exact ⟨h1.c0, h1.c1, h2.c0, h2.c1, h2.c2, h2.c3, h2.c4, h2.c5⟩
      obtain ⟨s0, s1, s2, s3, s4, s5, s6, s7⟩ := ALL.out W0 (Q.refl _)
      have HQ1 : Hid (Q W0 W0) := Lib.hid (Q.refl _)
      go_wp2_with (first
        | (go_at_call 57; refine (E1.out W0 (HQ0.out.trans HQ1.out)).mono ?_; rintro e w2 ⟨rfl, q1⟩; have HQ2 := Lib.hid (HQ1.out.trans q1); clear s0 s1 s2 s3 s4 s5 s6 s7 q1; obtain ⟨s0, s1, s2, s3, s4, s5, s6, s7⟩ := ALL.out w2 HQ2.out)
        | fail)
      go_ret
      exact ⟨by rw [HR.out]; rfl, HQ0.out.trans HQ2.out⟩
    · cases h2 : fewB ks sl.length
      · have HR : Hid (of13B l ks sl R c P T = false) := by unfold Hid; rw [HD.out]; simp [h0, h1, h2]
        have CC2 := Lib.hid (C2.out)
        have D1 := Lib.hid C2.out
        unfold Hid at D1
        rw [h1] at D1
        have E1 := Lib.hid D1
        have D2 := Lib.hid C3.out
        unfold Hid at D2
        rw [h2] at D2
        have E2 := Lib.hid D2
        have d64 : decide ((l.length : Int) ≤ 64) = true := decide_eq_true (by have := of_decide_eq_true h0; omega)
        clear CC2 C2 C3 C4 C5 C6 C7 h0 h1 h2 D1 D2
        go_enter Tryz.func15, Tryz.ntmps15
        go_upto_region 1 with fail
        generalize (w.alloc (Obj.cells #[.slice A ks.length ca, .slice S sl.length d] 26)).alloc (Obj.cells #[.slice F R.length cr, .slice Av c.V.length k1, .slice D c.N.length k2, .slice E c.M.length k3, .slice Pa P.length kp, .slice Ta T.length kt] 31) = W0 at *
        have ALL : Hid (∀ U, Q W0 U → U.cell? ⟨w.heap.size, 0, none⟩ = some (.slice A ks.length ca) ∧ U.cell? ⟨w.heap.size, 1, none⟩ = some (.slice S sl.length d) ∧ U.cell? ⟨w.heap.size + 1, 0, none⟩ = some (.slice F R.length cr) ∧ U.cell? ⟨w.heap.size + 1, 1, none⟩ = some (.slice Av c.V.length k1) ∧ U.cell? ⟨w.heap.size + 1, 2, none⟩ = some (.slice D c.N.length k2) ∧ U.cell? ⟨w.heap.size + 1, 3, none⟩ = some (.slice E c.M.length k3) ∧ U.cell? ⟨w.heap.size + 1, 4, none⟩ = some (.slice Pa P.length kp) ∧ U.cell? ⟨w.heap.size + 1, 5, none⟩ = some (.slice Ta T.length kt)) := fun U q => by
          have h1 := HBa.out.q q
          have h2 := HBg.out.q q
          exact ⟨h1.c0, h1.c1, h2.c0, h2.c1, h2.c2, h2.c3, h2.c4, h2.c5⟩
        obtain ⟨s0, s1, s2, s3, s4, s5, s6, s7⟩ := ALL.out W0 (Q.refl _)
        have HQ1 : Hid (Q W0 W0) := Lib.hid (Q.refl _)
        go_wp2_with (first
          | (go_at_call 57; refine (E1.out W0 (HQ0.out.trans HQ1.out)).mono ?_; rintro e w2 ⟨rfl, q1⟩; have HQ2 := Lib.hid (HQ1.out.trans q1); clear s0 s1 s2 s3 s4 s5 s6 s7 q1; obtain ⟨s0, s1, s2, s3, s4, s5, s6, s7⟩ := ALL.out w2 HQ2.out)
          | (go_at_call 58; refine (E2.out w2 (HQ0.out.trans HQ2.out)).mono ?_; rintro e w3 ⟨rfl, q2⟩; have HQ3 := Lib.hid (HQ2.out.trans q2); clear s0 s1 s2 s3 s4 s5 s6 s7 q2; obtain ⟨s0, s1, s2, s3, s4, s5, s6, s7⟩ := ALL.out w3 HQ3.out)
          | fail)
        go_ret
        exact ⟨by rw [HR.out]; rfl, HQ0.out.trans HQ3.out⟩
      · cases h3 : storeB l ks sl
        · have HR : Hid (of13B l ks sl R c P T = false) := by unfold Hid; rw [HD.out]; simp [h0, h1, h2, h3]
          have CC2 := Lib.hid (C2.out)
          have D1 := Lib.hid C2.out
          unfold Hid at D1
          rw [h1] at D1
          have E1 := Lib.hid D1
          have D2 := Lib.hid C3.out
          unfold Hid at D2
          rw [h2] at D2
          have E2 := Lib.hid D2
          have D3 := Lib.hid (C4.out h2)
          unfold Hid at D3
          rw [h3] at D3
          have E3 := Lib.hid D3
          have d64 : decide ((l.length : Int) ≤ 64) = true := decide_eq_true (by have := of_decide_eq_true h0; omega)
          clear CC2 C2 C3 C4 C5 C6 C7 h0 h1 h2 h3 D1 D2 D3
          go_enter Tryz.func15, Tryz.ntmps15
          go_upto_region 1 with fail
          generalize (w.alloc (Obj.cells #[.slice A ks.length ca, .slice S sl.length d] 26)).alloc (Obj.cells #[.slice F R.length cr, .slice Av c.V.length k1, .slice D c.N.length k2, .slice E c.M.length k3, .slice Pa P.length kp, .slice Ta T.length kt] 31) = W0 at *
          have ALL : Hid (∀ U, Q W0 U → U.cell? ⟨w.heap.size, 0, none⟩ = some (.slice A ks.length ca) ∧ U.cell? ⟨w.heap.size, 1, none⟩ = some (.slice S sl.length d) ∧ U.cell? ⟨w.heap.size + 1, 0, none⟩ = some (.slice F R.length cr) ∧ U.cell? ⟨w.heap.size + 1, 1, none⟩ = some (.slice Av c.V.length k1) ∧ U.cell? ⟨w.heap.size + 1, 2, none⟩ = some (.slice D c.N.length k2) ∧ U.cell? ⟨w.heap.size + 1, 3, none⟩ = some (.slice E c.M.length k3) ∧ U.cell? ⟨w.heap.size + 1, 4, none⟩ = some (.slice Pa P.length kp) ∧ U.cell? ⟨w.heap.size + 1, 5, none⟩ = some (.slice Ta T.length kt)) := fun U q => by
            have h1 := HBa.out.q q
            have h2 := HBg.out.q q
            exact ⟨h1.c0, h1.c1, h2.c0, h2.c1, h2.c2, h2.c3, h2.c4, h2.c5⟩
          obtain ⟨s0, s1, s2, s3, s4, s5, s6, s7⟩ := ALL.out W0 (Q.refl _)
          have HQ1 : Hid (Q W0 W0) := Lib.hid (Q.refl _)
          go_wp2_with (first
            | (go_at_call 57; refine (E1.out W0 (HQ0.out.trans HQ1.out)).mono ?_; rintro e w2 ⟨rfl, q1⟩; have HQ2 := Lib.hid (HQ1.out.trans q1); clear s0 s1 s2 s3 s4 s5 s6 s7 q1; obtain ⟨s0, s1, s2, s3, s4, s5, s6, s7⟩ := ALL.out w2 HQ2.out)
            | (go_at_call 58; refine (E2.out w2 (HQ0.out.trans HQ2.out)).mono ?_; rintro e w3 ⟨rfl, q2⟩; have HQ3 := Lib.hid (HQ2.out.trans q2); clear s0 s1 s2 s3 s4 s5 s6 s7 q2; obtain ⟨s0, s1, s2, s3, s4, s5, s6, s7⟩ := ALL.out w3 HQ3.out)
            | (go_at_call 59; refine (E3.out w3 (HQ0.out.trans HQ3.out)).mono ?_; rintro e w4 ⟨rfl, q3⟩; have HQ4 := Lib.hid (HQ3.out.trans q3); clear s0 s1 s2 s3 s4 s5 s6 s7 q3; obtain ⟨s0, s1, s2, s3, s4, s5, s6, s7⟩ := ALL.out w4 HQ4.out)
            | fail)
          go_ret
          exact ⟨by rw [HR.out]; rfl, HQ0.out.trans HQ4.out⟩
        · cases h4 : few12B R c P T
          · have HR : Hid (of13B l ks sl R c P T = false) := by unfold Hid; rw [HD.out]; simp [h0, h1, h2, h3, h4]
            have CC2 := Lib.hid (C2.out)
            have D1 := Lib.hid C2.out
            unfold Hid at D1
            rw [h1] at D1
            have E1 := Lib.hid D1
            have D2 := Lib.hid C3.out
            unfold Hid at D2
            rw [h2] at D2
            have E2 := Lib.hid D2
            have D3 := Lib.hid (C4.out h2)
            unfold Hid at D3
            rw [h3] at D3
            have E3 := Lib.hid D3
            have D4 := Lib.hid C5.out
            unfold Hid at D4
            rw [h4] at D4
            have E4 := Lib.hid D4
            have d64 : decide ((l.length : Int) ≤ 64) = true := decide_eq_true (by have := of_decide_eq_true h0; omega)
            clear CC2 C2 C3 C4 C5 C6 C7 h0 h1 h2 h3 h4 D1 D2 D3 D4
            go_enter Tryz.func15, Tryz.ntmps15
            go_upto_region 1 with fail
            generalize (w.alloc (Obj.cells #[.slice A ks.length ca, .slice S sl.length d] 26)).alloc (Obj.cells #[.slice F R.length cr, .slice Av c.V.length k1, .slice D c.N.length k2, .slice E c.M.length k3, .slice Pa P.length kp, .slice Ta T.length kt] 31) = W0 at *
            have ALL : Hid (∀ U, Q W0 U → U.cell? ⟨w.heap.size, 0, none⟩ = some (.slice A ks.length ca) ∧ U.cell? ⟨w.heap.size, 1, none⟩ = some (.slice S sl.length d) ∧ U.cell? ⟨w.heap.size + 1, 0, none⟩ = some (.slice F R.length cr) ∧ U.cell? ⟨w.heap.size + 1, 1, none⟩ = some (.slice Av c.V.length k1) ∧ U.cell? ⟨w.heap.size + 1, 2, none⟩ = some (.slice D c.N.length k2) ∧ U.cell? ⟨w.heap.size + 1, 3, none⟩ = some (.slice E c.M.length k3) ∧ U.cell? ⟨w.heap.size + 1, 4, none⟩ = some (.slice Pa P.length kp) ∧ U.cell? ⟨w.heap.size + 1, 5, none⟩ = some (.slice Ta T.length kt)) := fun U q => by
              have h1 := HBa.out.q q
              have h2 := HBg.out.q q
              exact ⟨h1.c0, h1.c1, h2.c0, h2.c1, h2.c2, h2.c3, h2.c4, h2.c5⟩
            obtain ⟨s0, s1, s2, s3, s4, s5, s6, s7⟩ := ALL.out W0 (Q.refl _)
            have HQ1 : Hid (Q W0 W0) := Lib.hid (Q.refl _)
            go_wp2_with (first
              | (go_at_call 57; refine (E1.out W0 (HQ0.out.trans HQ1.out)).mono ?_; rintro e w2 ⟨rfl, q1⟩; have HQ2 := Lib.hid (HQ1.out.trans q1); clear s0 s1 s2 s3 s4 s5 s6 s7 q1; obtain ⟨s0, s1, s2, s3, s4, s5, s6, s7⟩ := ALL.out w2 HQ2.out)
              | (go_at_call 58; refine (E2.out w2 (HQ0.out.trans HQ2.out)).mono ?_; rintro e w3 ⟨rfl, q2⟩; have HQ3 := Lib.hid (HQ2.out.trans q2); clear s0 s1 s2 s3 s4 s5 s6 s7 q2; obtain ⟨s0, s1, s2, s3, s4, s5, s6, s7⟩ := ALL.out w3 HQ3.out)
              | (go_at_call 59; refine (E3.out w3 (HQ0.out.trans HQ3.out)).mono ?_; rintro e w4 ⟨rfl, q3⟩; have HQ4 := Lib.hid (HQ3.out.trans q3); clear s0 s1 s2 s3 s4 s5 s6 s7 q3; obtain ⟨s0, s1, s2, s3, s4, s5, s6, s7⟩ := ALL.out w4 HQ4.out)
              | (go_at_call 60; refine (E4.out w4 (HQ0.out.trans HQ4.out)).mono ?_; rintro e w5 ⟨rfl, q4⟩; have HQ5 := Lib.hid (HQ4.out.trans q4); clear s0 s1 s2 s3 s4 s5 s6 s7 q4; obtain ⟨s0, s1, s2, s3, s4, s5, s6, s7⟩ := ALL.out w5 HQ5.out)
              | fail)
            go_ret
            exact ⟨by rw [HR.out]; rfl, HQ0.out.trans HQ5.out⟩
          · cases h5 : decide (c.V.length ≤ 40)
            · have HR : Hid (of13B l ks sl R c P T = false) := by unfold Hid; rw [HD.out]; simp [h0, h1, h2, h3, h4, h5]
              have CC2 := Lib.hid (C2.out)
              have D1 := Lib.hid C2.out
              unfold Hid at D1
              rw [h1] at D1
              have E1 := Lib.hid D1
              have D2 := Lib.hid C3.out
              unfold Hid at D2
              rw [h2] at D2
              have E2 := Lib.hid D2
              have D3 := Lib.hid (C4.out h2)
              unfold Hid at D3
              rw [h3] at D3
              have E3 := Lib.hid D3
              have D4 := Lib.hid C5.out
              unfold Hid at D4
              rw [h4] at D4
              have E4 := Lib.hid D4
              have d64 : decide ((l.length : Int) ≤ 64) = true := decide_eq_true (by have := of_decide_eq_true h0; omega)
              have d40 : decide ((c.V.length : Int) ≤ 40) = false := decide_eq_false (by have := of_decide_eq_false h5; omega)
              clear CC2 C2 C3 C4 C5 C6 C7 h0 h1 h2 h3 h4 h5 D1 D2 D3 D4
              go_enter Tryz.func15, Tryz.ntmps15
              go_upto_region 1 with fail
              generalize (w.alloc (Obj.cells #[.slice A ks.length ca, .slice S sl.length d] 26)).alloc (Obj.cells #[.slice F R.length cr, .slice Av c.V.length k1, .slice D c.N.length k2, .slice E c.M.length k3, .slice Pa P.length kp, .slice Ta T.length kt] 31) = W0 at *
              have ALL : Hid (∀ U, Q W0 U → U.cell? ⟨w.heap.size, 0, none⟩ = some (.slice A ks.length ca) ∧ U.cell? ⟨w.heap.size, 1, none⟩ = some (.slice S sl.length d) ∧ U.cell? ⟨w.heap.size + 1, 0, none⟩ = some (.slice F R.length cr) ∧ U.cell? ⟨w.heap.size + 1, 1, none⟩ = some (.slice Av c.V.length k1) ∧ U.cell? ⟨w.heap.size + 1, 2, none⟩ = some (.slice D c.N.length k2) ∧ U.cell? ⟨w.heap.size + 1, 3, none⟩ = some (.slice E c.M.length k3) ∧ U.cell? ⟨w.heap.size + 1, 4, none⟩ = some (.slice Pa P.length kp) ∧ U.cell? ⟨w.heap.size + 1, 5, none⟩ = some (.slice Ta T.length kt)) := fun U q => by
                have h1 := HBa.out.q q
                have h2 := HBg.out.q q
                exact ⟨h1.c0, h1.c1, h2.c0, h2.c1, h2.c2, h2.c3, h2.c4, h2.c5⟩
              obtain ⟨s0, s1, s2, s3, s4, s5, s6, s7⟩ := ALL.out W0 (Q.refl _)
              have HQ1 : Hid (Q W0 W0) := Lib.hid (Q.refl _)
              go_wp2_with (first
                | (go_at_call 57; refine (E1.out W0 (HQ0.out.trans HQ1.out)).mono ?_; rintro e w2 ⟨rfl, q1⟩; have HQ2 := Lib.hid (HQ1.out.trans q1); clear s0 s1 s2 s3 s4 s5 s6 s7 q1; obtain ⟨s0, s1, s2, s3, s4, s5, s6, s7⟩ := ALL.out w2 HQ2.out)
                | (go_at_call 58; refine (E2.out w2 (HQ0.out.trans HQ2.out)).mono ?_; rintro e w3 ⟨rfl, q2⟩; have HQ3 := Lib.hid (HQ2.out.trans q2); clear s0 s1 s2 s3 s4 s5 s6 s7 q2; obtain ⟨s0, s1, s2, s3, s4, s5, s6, s7⟩ := ALL.out w3 HQ3.out)
                | (go_at_call 59; refine (E3.out w3 (HQ0.out.trans HQ3.out)).mono ?_; rintro e w4 ⟨rfl, q3⟩; have HQ4 := Lib.hid (HQ3.out.trans q3); clear s0 s1 s2 s3 s4 s5 s6 s7 q3; obtain ⟨s0, s1, s2, s3, s4, s5, s6, s7⟩ := ALL.out w4 HQ4.out)
                | (go_at_call 60; refine (E4.out w4 (HQ0.out.trans HQ4.out)).mono ?_; rintro e w5 ⟨rfl, q4⟩; have HQ5 := Lib.hid (HQ4.out.trans q4); clear s0 s1 s2 s3 s4 s5 s6 s7 q4; obtain ⟨s0, s1, s2, s3, s4, s5, s6, s7⟩ := ALL.out w5 HQ5.out)
                | fail)
              go_ret
              exact ⟨by rw [HR.out]; rfl, HQ0.out.trans HQ5.out⟩
            · cases h6 : rightG R ks c P T
              · have HR : Hid (of13B l ks sl R c P T = false) := by unfold Hid; rw [HD.out]; simp [h0, h1, h2, h3, h4, h5, h6]
                have CC2 := Lib.hid (C2.out)
                have D1 := Lib.hid C2.out
                unfold Hid at D1
                rw [h1] at D1
                have E1 := Lib.hid D1
                have D2 := Lib.hid C3.out
                unfold Hid at D2
                rw [h2] at D2
                have E2 := Lib.hid D2
                have D3 := Lib.hid (C4.out h2)
                unfold Hid at D3
                rw [h3] at D3
                have E3 := Lib.hid D3
                have D4 := Lib.hid C5.out
                unfold Hid at D4
                rw [h4] at D4
                have E4 := Lib.hid D4
                have D6 := Lib.hid (C6.out h4)
                unfold Hid at D6
                rw [h6] at D6
                have E6 := Lib.hid D6
                have d64 : decide ((l.length : Int) ≤ 64) = true := decide_eq_true (by have := of_decide_eq_true h0; omega)
                have d40 : decide ((c.V.length : Int) ≤ 40) = true := decide_eq_true (by have := of_decide_eq_true h5; omega)
                clear CC2 C2 C3 C4 C5 C6 C7 h0 h1 h2 h3 h4 h5 h6 D1 D2 D3 D4 D6
                go_enter Tryz.func15, Tryz.ntmps15
                go_upto_region 1 with fail
                generalize (w.alloc (Obj.cells #[.slice A ks.length ca, .slice S sl.length d] 26)).alloc (Obj.cells #[.slice F R.length cr, .slice Av c.V.length k1, .slice D c.N.length k2, .slice E c.M.length k3, .slice Pa P.length kp, .slice Ta T.length kt] 31) = W0 at *
                have ALL : Hid (∀ U, Q W0 U → U.cell? ⟨w.heap.size, 0, none⟩ = some (.slice A ks.length ca) ∧ U.cell? ⟨w.heap.size, 1, none⟩ = some (.slice S sl.length d) ∧ U.cell? ⟨w.heap.size + 1, 0, none⟩ = some (.slice F R.length cr) ∧ U.cell? ⟨w.heap.size + 1, 1, none⟩ = some (.slice Av c.V.length k1) ∧ U.cell? ⟨w.heap.size + 1, 2, none⟩ = some (.slice D c.N.length k2) ∧ U.cell? ⟨w.heap.size + 1, 3, none⟩ = some (.slice E c.M.length k3) ∧ U.cell? ⟨w.heap.size + 1, 4, none⟩ = some (.slice Pa P.length kp) ∧ U.cell? ⟨w.heap.size + 1, 5, none⟩ = some (.slice Ta T.length kt)) := fun U q => by
                  have h1 := HBa.out.q q
                  have h2 := HBg.out.q q
                  exact ⟨h1.c0, h1.c1, h2.c0, h2.c1, h2.c2, h2.c3, h2.c4, h2.c5⟩
                obtain ⟨s0, s1, s2, s3, s4, s5, s6, s7⟩ := ALL.out W0 (Q.refl _)
                have HQ1 : Hid (Q W0 W0) := Lib.hid (Q.refl _)
                go_wp2_with (first
                  | (go_at_call 57; refine (E1.out W0 (HQ0.out.trans HQ1.out)).mono ?_; rintro e w2 ⟨rfl, q1⟩; have HQ2 := Lib.hid (HQ1.out.trans q1); clear s0 s1 s2 s3 s4 s5 s6 s7 q1; obtain ⟨s0, s1, s2, s3, s4, s5, s6, s7⟩ := ALL.out w2 HQ2.out)
                  | (go_at_call 58; refine (E2.out w2 (HQ0.out.trans HQ2.out)).mono ?_; rintro e w3 ⟨rfl, q2⟩; have HQ3 := Lib.hid (HQ2.out.trans q2); clear s0 s1 s2 s3 s4 s5 s6 s7 q2; obtain ⟨s0, s1, s2, s3, s4, s5, s6, s7⟩ := ALL.out w3 HQ3.out)
                  | (go_at_call 59; refine (E3.out w3 (HQ0.out.trans HQ3.out)).mono ?_; rintro e w4 ⟨rfl, q3⟩; have HQ4 := Lib.hid (HQ3.out.trans q3); clear s0 s1 s2 s3 s4 s5 s6 s7 q3; obtain ⟨s0, s1, s2, s3, s4, s5, s6, s7⟩ := ALL.out w4 HQ4.out)
                  | (go_at_call 60; refine (E4.out w4 (HQ0.out.trans HQ4.out)).mono ?_; rintro e w5 ⟨rfl, q4⟩; have HQ5 := Lib.hid (HQ4.out.trans q4); clear s0 s1 s2 s3 s4 s5 s6 s7 q4; obtain ⟨s0, s1, s2, s3, s4, s5, s6, s7⟩ := ALL.out w5 HQ5.out)
                  | (go_at_call 26; refine (E6.out w5 (HQ0.out.trans HQ5.out)).mono ?_; rintro e w6 ⟨rfl, q5⟩; have HQ6 := Lib.hid (HQ5.out.trans q5); clear s0 s1 s2 s3 s4 s5 s6 s7 q5; obtain ⟨s0, s1, s2, s3, s4, s5, s6, s7⟩ := ALL.out w6 HQ6.out)
                  | fail)
                go_ret
                exact ⟨by rw [HR.out]; rfl, HQ0.out.trans HQ6.out⟩
              · cases h7 : allV ks c.V.length
                · have HR : Hid (of13B l ks sl R c P T = false) := by unfold Hid; rw [HD.out]; simp [h0, h1, h2, h3, h4, h5, h6, h7]
                  have CC2 := Lib.hid (C2.out)
                  have D1 := Lib.hid C2.out
                  unfold Hid at D1
                  rw [h1] at D1
                  have E1 := Lib.hid D1
                  have D2 := Lib.hid C3.out
                  unfold Hid at D2
                  rw [h2] at D2
                  have E2 := Lib.hid D2
                  have D3 := Lib.hid (C4.out h2)
                  unfold Hid at D3
                  rw [h3] at D3
                  have E3 := Lib.hid D3
                  have D4 := Lib.hid C5.out
                  unfold Hid at D4
                  rw [h4] at D4
                  have E4 := Lib.hid D4
                  have D6 := Lib.hid (C6.out h4)
                  unfold Hid at D6
                  rw [h6] at D6
                  have E6 := Lib.hid D6
                  have D7 := Lib.hid (C7.out h2 h4)
                  unfold Hid at D7
                  rw [h7] at D7
                  have E7 := Lib.hid D7
                  have d64 : decide ((l.length : Int) ≤ 64) = true := decide_eq_true (by have := of_decide_eq_true h0; omega)
                  have d40 : decide ((c.V.length : Int) ≤ 40) = true := decide_eq_true (by have := of_decide_eq_true h5; omega)
                  clear CC2 C2 C3 C4 C5 C6 C7 h0 h1 h2 h3 h4 h5 h6 h7 D1 D2 D3 D4 D6 D7
                  go_enter Tryz.func15, Tryz.ntmps15
                  go_upto_region 1 with fail
                  generalize (w.alloc (Obj.cells #[.slice A ks.length ca, .slice S sl.length d] 26)).alloc (Obj.cells #[.slice F R.length cr, .slice Av c.V.length k1, .slice D c.N.length k2, .slice E c.M.length k3, .slice Pa P.length kp, .slice Ta T.length kt] 31) = W0 at *
                  have ALL : Hid (∀ U, Q W0 U → U.cell? ⟨w.heap.size, 0, none⟩ = some (.slice A ks.length ca) ∧ U.cell? ⟨w.heap.size, 1, none⟩ = some (.slice S sl.length d) ∧ U.cell? ⟨w.heap.size + 1, 0, none⟩ = some (.slice F R.length cr) ∧ U.cell? ⟨w.heap.size + 1, 1, none⟩ = some (.slice Av c.V.length k1) ∧ U.cell? ⟨w.heap.size + 1, 2, none⟩ = some (.slice D c.N.length k2) ∧ U.cell? ⟨w.heap.size + 1, 3, none⟩ = some (.slice E c.M.length k3) ∧ U.cell? ⟨w.heap.size + 1, 4, none⟩ = some (.slice Pa P.length kp) ∧ U.cell? ⟨w.heap.size + 1, 5, none⟩ = some (.slice Ta T.length kt)) := fun U q => by
                    have h1 := HBa.out.q q
                    have h2 := HBg.out.q q
                    exact ⟨h1.c0, h1.c1, h2.c0, h2.c1, h2.c2, h2.c3, h2.c4, h2.c5⟩
                  obtain ⟨s0, s1, s2, s3, s4, s5, s6, s7⟩ := ALL.out W0 (Q.refl _)
                  have HQ1 : Hid (Q W0 W0) := Lib.hid (Q.refl _)
                  go_wp2_with (first
                    | (go_at_call 57; refine (E1.out W0 (HQ0.out.trans HQ1.out)).mono ?_; rintro e w2 ⟨rfl, q1⟩; have HQ2 := Lib.hid (HQ1.out.trans q1); clear s0 s1 s2 s3 s4 s5 s6 s7 q1; obtain ⟨s0, s1, s2, s3, s4, s5, s6, s7⟩ := ALL.out w2 HQ2.out)
                    | (go_at_call 58; refine (E2.out w2 (HQ0.out.trans HQ2.out)).mono ?_; rintro e w3 ⟨rfl, q2⟩; have HQ3 := Lib.hid (HQ2.out.trans q2); clear s0 s1 s2 s3 s4 s5 s6 s7 q2; obtain ⟨s0, s1, s2, s3, s4, s5, s6, s7⟩ := ALL.out w3 HQ3.out)
                    | (go_at_call 59; refine (E3.out w3 (HQ0.out.trans HQ3.out)).mono ?_; rintro e w4 ⟨rfl, q3⟩; have HQ4 := Lib.hid (HQ3.out.trans q3); clear s0 s1 s2 s3 s4 s5 s6 s7 q3; obtain ⟨s0, s1, s2, s3, s4, s5, s6, s7⟩ := ALL.out w4 HQ4.out)
                    | (go_at_call 60; refine (E4.out w4 (HQ0.out.trans HQ4.out)).mono ?_; rintro e w5 ⟨rfl, q4⟩; have HQ5 := Lib.hid (HQ4.out.trans q4); clear s0 s1 s2 s3 s4 s5 s6 s7 q4; obtain ⟨s0, s1, s2, s3, s4, s5, s6, s7⟩ := ALL.out w5 HQ5.out)
                    | (go_at_call 26; refine (E6.out w5 (HQ0.out.trans HQ5.out)).mono ?_; rintro e w6 ⟨rfl, q5⟩; have HQ6 := Lib.hid (HQ5.out.trans q5); clear s0 s1 s2 s3 s4 s5 s6 s7 q5; obtain ⟨s0, s1, s2, s3, s4, s5, s6, s7⟩ := ALL.out w6 HQ6.out)
                    | (go_at_call 61; refine (E7.out w6 (HQ0.out.trans HQ6.out)).mono ?_; rintro e w7 ⟨rfl, q6⟩; have HQ7 := Lib.hid (HQ6.out.trans q6); clear s0 s1 s2 s3 s4 s5 s6 s7 q6; obtain ⟨s0, s1, s2, s3, s4, s5, s6, s7⟩ := ALL.out w7 HQ7.out)
                    | fail)
                  go_ret
                  exact ⟨by rw [HR.out]; rfl, HQ0.out.trans HQ7.out⟩
                · have HR : Hid (of13B l ks sl R c P T = true) := by unfold Hid; rw [HD.out]; simp [h0, h1, h2, h3, h4, h5, h6, h7]
                  have CC2 := Lib.hid (C2.out)
                  have D1 := Lib.hid C2.out
                  unfold Hid at D1
                  rw [h1] at D1
                  have E1 := Lib.hid D1
                  have D2 := Lib.hid C3.out
                  unfold Hid at D2
                  rw [h2] at D2
                  have E2 := Lib.hid D2
                  have D3 := Lib.hid (C4.out h2)
                  unfold Hid at D3
                  rw [h3] at D3
                  have E3 := Lib.hid D3
                  have D4 := Lib.hid C5.out
                  unfold Hid at D4
                  rw [h4] at D4
                  have E4 := Lib.hid D4
                  have D6 := Lib.hid (C6.out h4)
                  unfold Hid at D6
                  rw [h6] at D6
                  have E6 := Lib.hid D6
                  have D7 := Lib.hid (C7.out h2 h4)
                  unfold Hid at D7
                  rw [h7] at D7
                  have E7 := Lib.hid D7
                  have d64 : decide ((l.length : Int) ≤ 64) = true := decide_eq_true (by have := of_decide_eq_true h0; omega)
                  have d40 : decide ((c.V.length : Int) ≤ 40) = true := decide_eq_true (by have := of_decide_eq_true h5; omega)
                  clear CC2 C2 C3 C4 C5 C6 C7 h0 h1 h2 h3 h4 h5 h6 h7 D1 D2 D3 D4 D6 D7
                  go_enter Tryz.func15, Tryz.ntmps15
                  go_upto_region 1 with fail
                  generalize (w.alloc (Obj.cells #[.slice A ks.length ca, .slice S sl.length d] 26)).alloc (Obj.cells #[.slice F R.length cr, .slice Av c.V.length k1, .slice D c.N.length k2, .slice E c.M.length k3, .slice Pa P.length kp, .slice Ta T.length kt] 31) = W0 at *
                  have ALL : Hid (∀ U, Q W0 U → U.cell? ⟨w.heap.size, 0, none⟩ = some (.slice A ks.length ca) ∧ U.cell? ⟨w.heap.size, 1, none⟩ = some (.slice S sl.length d) ∧ U.cell? ⟨w.heap.size + 1, 0, none⟩ = some (.slice F R.length cr) ∧ U.cell? ⟨w.heap.size + 1, 1, none⟩ = some (.slice Av c.V.length k1) ∧ U.cell? ⟨w.heap.size + 1, 2, none⟩ = some (.slice D c.N.length k2) ∧ U.cell? ⟨w.heap.size + 1, 3, none⟩ = some (.slice E c.M.length k3) ∧ U.cell? ⟨w.heap.size + 1, 4, none⟩ = some (.slice Pa P.length kp) ∧ U.cell? ⟨w.heap.size + 1, 5, none⟩ = some (.slice Ta T.length kt)) := fun U q => by
                    have h1 := HBa.out.q q
                    have h2 := HBg.out.q q
                    exact ⟨h1.c0, h1.c1, h2.c0, h2.c1, h2.c2, h2.c3, h2.c4, h2.c5⟩
                  obtain ⟨s0, s1, s2, s3, s4, s5, s6, s7⟩ := ALL.out W0 (Q.refl _)
                  have HQ1 : Hid (Q W0 W0) := Lib.hid (Q.refl _)
                  go_wp2_with (first
                    | (go_at_call 57; refine (E1.out W0 (HQ0.out.trans HQ1.out)).mono ?_; rintro e w2 ⟨rfl, q1⟩; have HQ2 := Lib.hid (HQ1.out.trans q1); clear s0 s1 s2 s3 s4 s5 s6 s7 q1; obtain ⟨s0, s1, s2, s3, s4, s5, s6, s7⟩ := ALL.out w2 HQ2.out)
                    | (go_at_call 58; refine (E2.out w2 (HQ0.out.trans HQ2.out)).mono ?_; rintro e w3 ⟨rfl, q2⟩; have HQ3 := Lib.hid (HQ2.out.trans q2); clear s0 s1 s2 s3 s4 s5 s6 s7 q2; obtain ⟨s0, s1, s2, s3, s4, s5, s6, s7⟩ := ALL.out w3 HQ3.out)
                    | (go_at_call 59; refine (E3.out w3 (HQ0.out.trans HQ3.out)).mono ?_; rintro e w4 ⟨rfl, q3⟩; have HQ4 := Lib.hid (HQ3.out.trans q3); clear s0 s1 s2 s3 s4 s5 s6 s7 q3; obtain ⟨s0, s1, s2, s3, s4, s5, s6, s7⟩ := ALL.out w4 HQ4.out)
                    | (go_at_call 60; refine (E4.out w4 (HQ0.out.trans HQ4.out)).mono ?_; rintro e w5 ⟨rfl, q4⟩; have HQ5 := Lib.hid (HQ4.out.trans q4); clear s0 s1 s2 s3 s4 s5 s6 s7 q4; obtain ⟨s0, s1, s2, s3, s4, s5, s6, s7⟩ := ALL.out w5 HQ5.out)
                    | (go_at_call 26; refine (E6.out w5 (HQ0.out.trans HQ5.out)).mono ?_; rintro e w6 ⟨rfl, q5⟩; have HQ6 := Lib.hid (HQ5.out.trans q5); clear s0 s1 s2 s3 s4 s5 s6 s7 q5; obtain ⟨s0, s1, s2, s3, s4, s5, s6, s7⟩ := ALL.out w6 HQ6.out)
                    | (go_at_call 61; refine (E7.out w6 (HQ0.out.trans HQ6.out)).mono ?_; rintro e w7 ⟨rfl, q6⟩; have HQ7 := Lib.hid (HQ6.out.trans q6); clear s0 s1 s2 s3 s4 s5 s6 s7 q6; obtain ⟨s0, s1, s2, s3, s4, s5, s6, s7⟩ := ALL.out w7 HQ7.out)
                    | fail)
                  go_ret
                  exact ⟨by rw [HR.out]; rfl, HQ0.out.trans HQ7.out⟩
theorem of13_12 {l : List Sg.Sig} {ks : List (List Int)} {sl R : List Int} {c : Cells} {P T : List (List Int)} (h : of13B l ks sl R c P T = true) : of12B l ks sl R c P T = true ∧ c.V.length ≤ 40 := by
  unfold of13B at h
  unfold of12B
  simp only [Bool.and_eq_true, decide_eq_true_eq] at *
  exact ⟨⟨⟨⟨⟨⟨⟨h.1.1.1.1.1.1.1, h.1.1.1.1.1.1.2⟩, h.1.1.1.1.1.2⟩, h.1.1.1.1.2⟩, h.1.1.1.2⟩, h.1.2⟩, h.2⟩, h.1.1.2⟩
end Go.Proofs.YtnifmfdlocgefaaGreat.Ig

namespace Go.Proofs.YtnifmfdlocgefaaGreat.Cy
open Go.RowKit Kit Tr Uf Ig
open Go.Proofs.YtnifmfdlocgefaaGreat.Hs (Keys Ints)
theorem toldN_len (ks : List (List Int)) (V row : List Int) (v : Nat) : (toldN ks V row v).length ≤ row.length := by
  unfold toldN
  rw [List.length_map]
  exact Nat.le_trans (List.length_filter_le _ _) (by rw [List.length_map]; exact Nat.le_refl _)
theorem rowG_len {Z : List (List Int)} {B : Nat} (h : ∀ k ∈ Z, k.length ≤ B) (i : Nat) : (rowG Z i).length ≤ B := by
  unfold rowG
  by_cases hi : i < Z.length
  · rw [rows_at hi]; exact h _ (List.getElem_mem _)
  · rw [List.getD_eq_getElem?_getD, List.getElem?_eq_none (by omega)]; simp
theorem edges_len (ks : List (List Int)) (V : List Int) {P T : List (List Int)} {B : Nat} (hP : ∀ k ∈ P, k.length ≤ B) (hT : ∀ k ∈ T, k.length ≤ B) : (edgesN ks V P T).length ≤ V.length * (2 * B) := by
  have h1 : ∀ v, (edgesAt ks V P T v).length ≤ 2 * B := fun v => by
    unfold edgesAt
    rw [List.length_append, List.length_map, List.length_map]
    have := Nat.le_trans (toldN_len ks V (rowG T v) v) (rowG_len hT v)
    have := Nat.le_trans (toldN_len ks V (rowG P v) v) (rowG_len hP v)
    omega
  have h2 : ∀ l : List Nat, (l.flatMap (edgesAt ks V P T)).length ≤ l.length * (2 * B) := fun l => by
    induction l with
    | nil => simp
    | cons a l ih =>
      rw [List.flatMap_cons, List.length_append, List.length_cons, Nat.succ_mul]
      have := h1 a
      omega
  refine Nat.le_trans (h2 _) (Nat.mul_le_mul_right _ ?_)
  unfold firstsN
  exact Nat.le_trans (List.length_filter_le _ _) (by rw [List.length_range]; exact Nat.le_refl _)
theorem next_len (ks : List (List Int)) (V : List Int) (P T : List (List Int)) (s : Nat) : (nextL ks V P T s).length ≤ V.length := by
  unfold nextL those
  rw [List.length_map]
  exact Nat.le_trans (List.length_filter_le _ _) (by rw [List.length_range]; exact Nat.le_refl _)
theorem ints13 {w : World} {B : Nat} {A : Option Addr} {xs : List Int} (h : Tr.Rds w B A (Tr.cellsI xs)) : Ints w B A xs := fun h0 => by
  obtain ⟨ad, e, hb, hc⟩ := h (by rw [Tr.cellsI_len]; exact h0)
  refine ⟨ad, e, hb, fun i x hx => ?_⟩
  have hi := (List.getElem?_eq_some_iff.1 hx).1
  have := hc i _ (Tr.cellsI_at hi)
  rw [this, (List.getElem?_eq_some_iff.1 hx).2]
end Go.Proofs.YtnifmfdlocgefaaGreat.Cy
