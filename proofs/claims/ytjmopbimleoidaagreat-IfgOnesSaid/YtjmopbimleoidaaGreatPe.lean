/-
  What the proofs lean on, part 5 of 17.
-/
import Derived.Test.YtjmopbimleoidaaGreatPd
import Derived.Deep.RegionHeld3
namespace Go.Proofs.YtjmopbimleoidaaGreat.Tr
open Go.RowKit Kit

/-- a box of three cells -/
structure Box3 (W : World) (B : Nat) (a b c : Value) : Prop where
  c0 : W.cell? ⟨B, 0, none⟩ = some a
  c1 : W.cell? ⟨B, 1, none⟩ = some b
  c2 : W.cell? ⟨B, 2, none⟩ = some c
  f0 : W.frozen? ⟨B, 0, none⟩ = false
  f1 : W.frozen? ⟨B, 1, none⟩ = false
  f2 : W.frozen? ⟨B, 2, none⟩ = false
  lt : B < W.heap.size
theorem Box3.three {W : World} {B : Nat} {a b c : Value} (h : Box3 W B a b c) : W.cell? ⟨B, 0, none⟩ = some a ∧ W.cell? ⟨B, 1, none⟩ = some b ∧ W.cell? ⟨B, 2, none⟩ = some c := ⟨h.c0, h.c1, h.c2⟩
theorem Box3.keep {W W' : World} {B : Nat} {a b c : Value} (h : Box3 W B a b c) (hb : W'.heap[B]? = W.heap[B]?) (hs : W.heap.size ≤ W'.heap.size) : Box3 W' B a b c :=
  ⟨(World.cell?_of_block (a := ⟨B, 0, none⟩) hb).trans h.c0, (World.cell?_of_block (a := ⟨B, 1, none⟩) hb).trans h.c1, (World.cell?_of_block (a := ⟨B, 2, none⟩) hb).trans h.c2,
    (World.frozen?_of_block (a := ⟨B, 0, none⟩) hb).trans h.f0, (World.frozen?_of_block (a := ⟨B, 1, none⟩) hb).trans h.f1, (World.frozen?_of_block (a := ⟨B, 2, none⟩) hb).trans h.f2, Nat.lt_of_lt_of_le h.lt hs⟩
theorem Box3.q {W W' : World} {B : Nat} {a b c : Value} (h : Box3 W B a b c) (q : Q W W') : Box3 W' B a b c := h.keep (q.block B h.lt) q.size
theorem Box3.grown {W W' : World} {B g : Nat} {a b c : Value} (h : Box3 W B a b c) (hg : W.grownBy W' (some g)) (hne : g ≠ B) : Box3 W' B a b c := h.keep (hg.block B h.lt (fun e => hne (by injection e with e; exact e.symm))) hg.size
theorem Box3.new (w : World) (a b c : Value) (t : TypeId) : Box3 (w.alloc (.cells #[a, b, c] t)) w.heap.size a b c := ⟨by simp, by simp, by simp, by simp, by simp, by simp, by simp⟩
theorem Box3.far {W : World} {B : Nat} {a b c : Value} (h : Box3 W B a b c) {g i : Nat} (hg : g ≠ B) (v : Value) : Box3 (W.setCell ⟨g, i, none⟩ v) B a b c := h.grown (setCell_grown W g i v) hg
theorem Box3.set0 {W : World} {B : Nat} {a b c : Value} (h : Box3 W B a b c) (v : Value) : Box3 (W.setCell ⟨B, 0, none⟩ v) B v b c :=
  ⟨setCell_eq h.c0, setCell_ne (by omega) h.c1, setCell_ne (by omega) h.c2, by rw [World.frozen?_setCell]; exact h.f0, by rw [World.frozen?_setCell]; exact h.f1, by rw [World.frozen?_setCell]; exact h.f2, by simpa [World.setCell] using h.lt⟩
theorem Box3.set1 {W : World} {B : Nat} {a b c : Value} (h : Box3 W B a b c) (v : Value) : Box3 (W.setCell ⟨B, 1, none⟩ v) B a v c :=
  ⟨setCell_ne (by omega) h.c0, setCell_eq h.c1, setCell_ne (by omega) h.c2, by rw [World.frozen?_setCell]; exact h.f0, by rw [World.frozen?_setCell]; exact h.f1, by rw [World.frozen?_setCell]; exact h.f2, by simpa [World.setCell] using h.lt⟩
theorem Box3.set2 {W : World} {B : Nat} {a b c : Value} (h : Box3 W B a b c) (v : Value) : Box3 (W.setCell ⟨B, 2, none⟩ v) B a b v :=
  ⟨setCell_ne (by omega) h.c0, setCell_ne (by omega) h.c1, setCell_eq h.c2, by rw [World.frozen?_setCell]; exact h.f0, by rw [World.frozen?_setCell]; exact h.f1, by rw [World.frozen?_setCell]; exact h.f2, by simpa [World.setCell] using h.lt⟩
theorem Box3.all {W : World} {B : Nat} {a b c : Value} (h : Box3 W B a b c) (x y z : Value) : Box3 (((W.setCell ⟨B, 0, none⟩ x).setCell ⟨B, 1, none⟩ y).setCell ⟨B, 2, none⟩ z) B x y z := ((h.set0 x).set1 y).set2 z
/-- what three stores into a box do to the rest -/
theorem set3_grown (W : World) (B : Nat) (x y z : Value) : W.grownBy (((W.setCell ⟨B, 0, none⟩ x).setCell ⟨B, 1, none⟩ y).setCell ⟨B, 2, none⟩ z) (some B) :=
  grown_trans (grown_trans (setCell_grown W B 0 x) (setCell_grown _ B 1 y)) (setCell_grown _ B 2 z)

/-- the value of cells, in memory -/
structure Rd (w : World) (c : Cells) (A : Option Addr) (k1 : Nat) (D : Option Addr) (k2 : Nat) (E : Option Addr) (k3 : Nat) : Prop where
  v : Rds w w.heap.size A (cellsI c.V)
  n : Rds w w.heap.size D (cellsP c.N)
  m : Rds w w.heap.size E (cellsI c.M)
  lv : c.V.length ≤ k1
  ln : c.N.length ≤ k2
  lm : c.M.length ≤ k3
theorem Rd.q {w w' : World} {c : Cells} {A : Option Addr} {k1 : Nat} {D : Option Addr} {k2 : Nat} {E : Option Addr} {k3 : Nat} (h : Rd w c A k1 D k2 E k3) (q : Q w w') : Rd w' c A k1 D k2 E k3 :=
  ⟨h.v.q q, h.n.q q, h.m.q q, h.lv, h.ln, h.lm⟩
/-- cells are few -/
def Few (c : Cells) (m : Nat) : Prop := c.V.length ≤ m ∧ c.N.length ≤ m ∧ c.M.length ≤ m

/-- what a call answers: cells in three blocks of its own -/
structure Out (w w' : World) (c : Cells) (g1 k1 g2 k2 g3 k3 : Nat) : Prop where
  v : OwnC w' g1 (cellsI c.V)
  n : OwnC w' g2 (cellsP c.N)
  m : OwnC w' g3 (cellsI c.M)
  lv : c.V.length ≤ k1
  ln : c.N.length ≤ k2
  lm : c.M.length ≤ k3
  o1 : w.heap.size ≤ g1
  o2 : w.heap.size ≤ g2
  o3 : w.heap.size ≤ g3
  d12 : g1 ≠ g2
  d13 : g1 ≠ g3
  d23 : g2 ≠ g3
  q : Q w w'
theorem Out.rd {w w' : World} {c : Cells} {g1 k1 g2 k2 g3 k3 : Nat} (h : Out w w' c g1 k1 g2 k2 g3 k3) : Rd w' c (some ⟨g1, 0, none⟩) k1 (some ⟨g2, 0, none⟩) k2 (some ⟨g3, 0, none⟩) k3 := ⟨h.v.rds, h.n.rds, h.m.rds, h.lv, h.ln, h.lm⟩
theorem Out.from {w0 w w' : World} {c : Cells} {g1 k1 g2 k2 g3 k3 : Nat} (h : Out w w' c g1 k1 g2 k2 g3 k3) (q : Q w0 w) : Out w0 w' c g1 k1 g2 k2 g3 k3 :=
  ⟨h.v, h.n, h.m, h.lv, h.ln, h.lm, Nat.le_trans q.size h.o1, Nat.le_trans q.size h.o2, Nat.le_trans q.size h.o3, h.d12, h.d13, h.d23, q.trans h.q⟩
theorem Out.more {w w' w'' : World} {c : Cells} {g1 k1 g2 k2 g3 k3 : Nat} (h : Out w w' c g1 k1 g2 k2 g3 k3) (q : Q w' w'') : Out w w'' c g1 k1 g2 k2 g3 k3 :=
  ⟨h.v.q q, h.n.q q, h.m.q q, h.lv, h.ln, h.lm, h.o1, h.o2, h.o3, h.d12, h.d13, h.d23, h.q.trans q⟩
/-- stores into a box that is none of the three -/
theorem Out.far {w w' w'' : World} {c : Cells} {g1 k1 g2 k2 g3 k3 B : Nat} (h : Out w w' c g1 k1 g2 k2 g3 k3) (hg : w'.grownBy w'' (some B)) (hB : w.heap.size ≤ B) (h1 : B ≠ g1) (h2 : B ≠ g2) (h3 : B ≠ g3) : Out w w'' c g1 k1 g2 k2 g3 k3 :=
  ⟨h.v.grown hg (by simpa using h1), h.n.grown hg (by simpa using h2), h.m.grown hg (by simpa using h3), h.lv, h.ln, h.lm, h.o1, h.o2, h.o3, h.d12, h.d13, h.d23, grown_q hg h.q hB⟩

/-- what copyOf answers -/
structure Cop (w w' : World) (c : Cells) (g1 g2 g3 : Nat) : Prop where
  v : w'.ownsRow w.heap.size 3 1 (.slice (some ⟨g1, 0, none⟩) c.V.length (c.V.length + 1)) c.V.length (cellsI c.V)
  n : w'.ownsRow w.heap.size 113 2 (.slice (some ⟨g2, 0, none⟩) c.N.length (c.N.length + 1)) c.N.length (cellsP c.N)
  m : w'.ownsRow w.heap.size 3 1 (.slice (some ⟨g3, 0, none⟩) c.M.length (c.M.length + 1)) c.M.length (cellsI c.M)
  d12 : g1 < g2
  d23 : g2 < g3
  lo : w.heap.size + 2 ≤ g1
  q : Q w w'
theorem Cop.out {w w' : World} {c : Cells} {g1 g2 g3 : Nat} (h : Cop w w' c g1 g2 g3) : Out w w' c g1 (c.V.length + 1) g2 (c.N.length + 1) g3 (c.M.length + 1) := by
  have := h.d12
  have := h.d23
  have := h.lo
  exact ⟨.of_row h.v, .of_row h.n, .of_row h.m, Nat.le_succ _, Nat.le_succ _, Nat.le_succ _, by omega, by omega, by omega, by omega, by omega, by omega, h.q⟩
def CopyOf (c : Cells) (w : World) (e : Ending) (w' : World) : Prop :=
  ∃ g1 g2 g3, e = .returned (.agg #[.slice (some ⟨g1, 0, none⟩) c.V.length (c.V.length + 1), .slice (some ⟨g2, 0, none⟩) c.N.length (c.N.length + 1), .slice (some ⟨g3, 0, none⟩) c.M.length (c.M.length + 1)]) ∧ Cop w w' c g1 g2 g3
theorem row_kept {w w' : World} {base base' : Nat} {e : TypeId} {size : Nat} {v : Value} {n : Nat} {xs : List Value} (h : w.ownsRow base e size v n xs) (q : Q w w') (hb : base' ≤ base) : w'.ownsRow base' e size v n xs := by
  have h2 := h.kept (row := none) (grows_q q none) (by cases v.ownBlock <;> simp)
  obtain ⟨a, b⟩ := h2
  refine ⟨a, ?_⟩
  rcases b with b | ⟨g, cap, cur, r1, r2, r⟩
  · exact .inl b
  · exact .inr ⟨g, cap, cur, r1, Nat.le_trans hb r2, r⟩
theorem row_far {w w' : World} {base : Nat} {e : TypeId} {size g n cap B : Nat} {xs : List Value} (h : w.ownsRow base e size (.slice (some ⟨g, 0, none⟩) n cap) n xs) (hg : w.grownBy w' (some B)) (hne : B ≠ g) : w'.ownsRow base e size (.slice (some ⟨g, 0, none⟩) n cap) n xs :=
  h.kept hg (.inr (by simp [Value.ownBlock]; exact fun e => hne e.symm))

set_option maxRecDepth 100000 in
set_option maxHeartbeats 2000000 in
theorem copyOf_any (c : Cells) (A D E : Option Addr) (n1 k1 n2 k2 n3 k3 : Nat) (w : World) (h1 : n1 = c.V.length) (h2 : n2 = c.N.length) (h3 : n3 = c.M.length) (h : Rd w c A k1 D k2 E k3) (hf : Few c 1000000) :
    Calls Tryz.prog 121 #[.agg #[.slice A n1 k1, .slice D n2 k2, .slice E n3 k3]] w (CopyOf c w) := by
  subst h1 h2 h3
  obtain ⟨f1, f2, f3⟩ := hf
  have q0 := ((Q.refl w).alloc (Obj.cells #[Value.slice A c.V.length k1, Value.slice D c.N.length k2, Value.slice E c.M.length k3] 29)).alloc (Obj.cells #[Value.slice none 0 0, Value.slice none 0 0, Value.slice none 0 0] 29)
  have HB := Lib.hid ((Box3.new w (Value.slice A c.V.length k1) (Value.slice D c.N.length k2) (Value.slice E c.M.length k3) 29).q ((Q.refl _).alloc (Obj.cells #[Value.slice none 0 0, Value.slice none 0 0, Value.slice none 0 0] 29)))
  have X := Box3.new (w.alloc (Obj.cells #[Value.slice A c.V.length k1, Value.slice D c.N.length k2, Value.slice E c.M.length k3] 29)) (Value.slice none 0 0) (Value.slice none 0 0) (Value.slice none 0 0) 29
  rw [World.size_alloc] at X
  have HX := Lib.hid X
  have HR := Lib.hid (h.q q0)
  clear h X
  go_enter Tryz.func121, Tryz.ntmps121
  go_upto_region 1 with fail
  have hz0 : ((w.alloc (Obj.cells #[Value.slice A c.V.length k1, Value.slice D c.N.length k2, Value.slice E c.M.length k3] 29)).alloc (Obj.cells #[Value.slice none 0 0, Value.slice none 0 0, Value.slice none 0 0] 29)).heap.size = w.heap.size + 2 := by simp
  generalize (w.alloc (Obj.cells #[Value.slice A c.V.length k1, Value.slice D c.N.length k2, Value.slice E c.M.length k3] 29)).alloc (Obj.cells #[Value.slice none 0 0, Value.slice none 0 0, Value.slice none 0 0] 29) = W0 at *
  have HZ := Lib.hid hz0
  clear hz0
  have HV : Hid (∀ W, Q W0 W → Calls Tryz.prog 151 #[.slice A c.V.length k1] W (CopyRow 3 1 c.V.length (cellsI c.V) W)) := fun W q => copyI_any A _ k1 c.V W rfl (HR.out.v.q q) f1
  have HN : Hid (∀ W, Q W0 W → Calls Tryz.prog 152 #[.slice D c.N.length k2] W (CopyRow 113 2 c.N.length (cellsP c.N) W)) := fun W q => copyP_any D _ k2 c.N W rfl (HR.out.n.q q) f2
  have HM : Hid (∀ W, Q W0 W → Calls Tryz.prog 151 #[.slice E c.M.length k3] W (CopyRow 3 1 c.M.length (cellsI c.M) W)) := fun W q => copyI_any E _ k3 c.M W rfl (HR.out.m.q q) f3
  have c0 := HB.out.c0
  have c1 := HB.out.c1
  have c2 := HB.out.c2
  have hlt0 := HB.out.lt
  go_region_held3 (fun w' => w'.cell? ⟨w.heap.size, 0, none⟩ = some (.slice A c.V.length k1) ∧ w'.cell? ⟨w.heap.size, 1, none⟩ = some (.slice D c.N.length k2) ∧ w'.cell? ⟨w.heap.size, 2, none⟩ = some (.slice E c.M.length k3))
    (first
      | go_keep
      | exact ⟨(p3.cell (p := ⟨w.heap.size, 0, none⟩) hlt0).trans c0, (p3.cell (p := ⟨w.heap.size, 1, none⟩) hlt0).trans c1, (p3.cell (p := ⟨w.heap.size, 2, none⟩) hlt0).trans c2⟩
      | exact ⟨(p2.cell (p := ⟨w.heap.size, 0, none⟩) hlt0).trans c0, (p2.cell (p := ⟨w.heap.size, 1, none⟩) hlt0).trans c1, (p2.cell (p := ⟨w.heap.size, 2, none⟩) hlt0).trans c2⟩
      | exact ⟨(p1.cell (p := ⟨w.heap.size, 0, none⟩) hlt0).trans c0, (p1.cell (p := ⟨w.heap.size, 1, none⟩) hlt0).trans c1, (p1.cell (p := ⟨w.heap.size, 2, none⟩) hlt0).trans c2⟩
      | exact (((HB.out.q p3).far (g := w.heap.size + 1) (by omega) _).far (g := w.heap.size + 1) (by omega) _).far (g := w.heap.size + 1) (by omega) _ |>.three)
    (first
      | (go_at_call 151; (with_reducible refine (HV.out _ (Q.refl W0).drew).mono ?_); rintro e w1 ⟨g1, rfl, own1, q1⟩; have Own1 := Lib.hid own1; clear own1; have p1 : Q W0 w1 := (Q.refl W0).drew.trans q1)
      | (go_at_call 152; (with_reducible refine (HN.out _ p1).mono ?_); rintro e w2 ⟨g2, rfl, own2, q2⟩; have Own2 := Lib.hid own2; clear own2; have p2 : Q W0 w2 := p1.trans q2)
      | (go_at_call 151; (with_reducible refine (HM.out _ p2).mono ?_); rintro e w3 ⟨g3, rfl, own3, q3⟩; have Own3 := Lib.hid own3; clear own3; have p3 : Q W0 w3 := p2.trans q3; have bx := HX.out.q p3; have y0 := bx.c0; have y1 := bx.c1; have y2 := bx.c2; have z0 := bx.f0; have z1 := bx.f1; have z2 := bx.f2))
  clear y0 y1 y2 z0 z1 z2 c0 c1 c2
  have bz := bx.all (.slice (some ⟨g1, 0, none⟩) c.V.length (c.V.length + 1)) (.slice (some ⟨g2, 0, none⟩) c.N.length (c.N.length + 1)) (.slice (some ⟨g3, 0, none⟩) c.M.length (c.M.length + 1))
  have y0 := bz.c0
  have y1 := bz.c1
  have y2 := bz.c2
  have hgr := Lib.hid (set3_grown w3 (w.heap.size + 1) (.slice (some ⟨g1, 0, none⟩) c.V.length (c.V.length + 1)) (.slice (some ⟨g2, 0, none⟩) c.N.length (c.N.length + 1)) (.slice (some ⟨g3, 0, none⟩) c.M.length (c.M.length + 1)))
  have e1 := (Own1.out.lt g1 rfl).1
  have e1' := (Own1.out.lt g1 rfl).2
  have e2 := (Own2.out.lt g2 rfl).1
  have e2' := (Own2.out.lt g2 rfl).2
  have e3 := (Own3.out.lt g3 rfl).1
  have hz := HZ.out
  have e0 : W0.heap.size ≤ g1 := e1
  go_wp2_with fail
  refine bodyPost_ret (v := .agg #[.slice (some ⟨g1, 0, none⟩) c.V.length (c.V.length + 1), .slice (some ⟨g2, 0, none⟩) c.N.length (c.N.length + 1), .slice (some ⟨g3, 0, none⟩) c.M.length (c.M.length + 1)]) (by simp [results, Tryz.f121, go_sem, y0, y1, y2]) rfl ⟨g1, g2, g3, rfl, ?_⟩
  exact ⟨row_far (row_kept (row_kept Own1.out q2 (by show w.heap.size ≤ W0.heap.size; omega)) q3 (Nat.le_refl _)) hgr.out (by omega), row_far (row_kept Own2.out q3 (by have := q1.size; have : W0.heap.size ≤ w1.heap.size := this; omega)) hgr.out (by have := q1.size; have : W0.heap.size ≤ w1.heap.size := this; omega),
    row_far (row_kept Own3.out (Q.refl _) (by have := p2.size; omega)) hgr.out (by have := p2.size; omega), by omega, by omega, by omega, grown_q hgr.out (q0.trans p3) (by omega)⟩
end Go.Proofs.YtjmopbimleoidaaGreat.Tr

namespace Go.Proofs.YtjmopbimleoidaaGreat.Uf
open Kit Tr

def rk (R : List Int) (n : Int) : Int := if 0 ≤ n ∧ n < R.length then R.getD n.toNat 0 else 0
def lessB (R : List Int) (a b : Int) : Bool := if rk R a = rk R b then decide (a < b) else decide (rk R a < rk R b)
theorem less_iff (R : List Int) (a b : Int) : lessB R a b = true ↔ rk R a < rk R b ∨ rk R a = rk R b ∧ a < b := by
  unfold lessB
  by_cases h : rk R a = rk R b
  · rw [if_pos h]; simp [h]
  · rw [if_neg h]; simp [h]
theorem less_self (R : List Int) (a : Int) : lessB R a a = false := by
  cases e : lessB R a a with
  | false => rfl
  | true => have := (less_iff R a a).1 e; omega
theorem less_trans {R : List Int} {a b c : Int} (h : lessB R a b = true) (k : lessB R b c = true) : lessB R a c = true := by
  rw [less_iff] at h k ⊢
  omega
theorem less_flip {R : List Int} {a b : Int} (h : a ≠ b) (k : lessB R a b = false) : lessB R b a = true := by
  have k' : ¬ lessB R a b = true := by rw [k]; simp
  rw [less_iff] at k' ⊢
  omega
theorem less_not {R : List Int} {a b : Int} (h : lessB R a b = true) : lessB R b a = false := by
  cases e : lessB R b a with
  | false => rfl
  | true => have := less_trans h e; rw [less_self] at this; cases this
/-- how many of the first L are ahead of n -/
def dep (R : List Int) (n : Nat) : Nat → Nat
  | 0 => 0
  | m + 1 => (if lessB R m n = true then 1 else 0) + dep R n m
theorem dep_le {R : List Int} {a b : Nat} (h : lessB R a b = true) : ∀ L, dep R a L ≤ dep R b L
  | 0 => Nat.le_refl _
  | m + 1 => by
    have := dep_le h m
    unfold dep
    by_cases e : lessB R m a = true
    · rw [if_pos e, if_pos (less_trans e h)]; omega
    · rw [if_neg e]; omega
theorem dep_lt {R : List Int} {a b : Nat} (h : lessB R a b = true) : ∀ {L}, a < L → dep R a L < dep R b L
  | 0, hL => absurd hL (by omega)
  | m + 1, hL => by
    unfold dep
    by_cases e : a = m
    · subst e
      rw [if_neg (by rw [less_self]; simp), if_pos h]
      have := dep_le h a
      omega
    · have := dep_lt h (L := m) (by omega)
      by_cases e : lessB R m a = true
      · rw [if_pos e, if_pos (less_trans e h)]; omega
      · rw [if_neg e]; omega
theorem dep_len (R : List Int) (n : Nat) : ∀ L, dep R n L ≤ L
  | 0 => Nat.le_refl _
  | m + 1 => by
    have := dep_len R n m
    unfold dep
    split <;> omega
theorem dep_in (R : List Int) {n : Nat} : ∀ {L}, n < L → dep R n L < L
  | 0, hL => absurd hL (by omega)
  | m + 1, hL => by
    unfold dep
    by_cases e : n = m
    · subst e
      rw [if_neg (by rw [less_self]; simp)]
      have := dep_len R n n
      omega
    · have := dep_in R (n := n) (L := m) (by omega)
      split <;> omega

def par (V : List Int) (n : Nat) : Nat := (V.getD n 0).toNat
/-- cells are classes -/
def Cl (R V : List Int) : Prop := ∀ n, n < V.length → ∃ p : Nat, p < V.length ∧ V[n]? = some (p : Int) ∧ (p = n ∨ lessB R p n = true)
theorem par_of {V : List Int} {n p : Nat} (h : V[n]? = some (p : Int)) : par V n = p := by
  unfold par
  rw [List.getD_eq_getElem?_getD, h]; rfl
theorem Cl.parent {R V : List Int} (h : Cl R V) {n : Nat} (hn : n < V.length) : par V n < V.length ∧ V[n]? = some (par V n : Int) ∧ (par V n = n ∨ lessB R (par V n) n = true) := by
  obtain ⟨p, h1, h2, h3⟩ := h n hn
  rw [par_of h2]
  exact ⟨h1, h2, h3⟩
theorem Cl.at {R V : List Int} (h : Cl R V) {n : Nat} (hn : n < V.length) : V[n] = (par V n : Int) := by
  have := (h.parent hn).2.1
  rw [List.getElem?_eq_getElem hn] at this
  injection this
/-- so many steps up -/
def root (V : List Int) : Nat → Nat → Nat
  | 0, n => n
  | k + 1, n => if par V n = n then n else root V k (par V n)
/-- the first one of n -/
def fst (V : List Int) (n : Nat) : Nat := root V V.length n
theorem Cl.ind {R V : List Int} (h : Cl R V) {P : Nat → Prop} (step : ∀ n, n < V.length → (par V n ≠ n → P (par V n)) → P n) : ∀ n, n < V.length → P n := by
  have : ∀ d n, n < V.length → dep R n V.length ≤ d → P n := fun d => by
    induction d with
    | zero =>
      intro n hn hd
      refine step n hn fun hne => ?_
      obtain ⟨h1, _, h3⟩ := h.parent hn
      have := dep_lt (h3.resolve_left hne) h1
      omega
    | succ d ih =>
      intro n hn hd
      refine step n hn fun hne => ?_
      obtain ⟨h1, _, h3⟩ := h.parent hn
      have := dep_lt (h3.resolve_left hne) h1
      exact ih _ h1 (by omega)
  exact fun n hn => this _ n hn (Nat.le_refl _)
theorem root_stay {V : List Int} {n : Nat} (h : par V n = n) : ∀ k, root V k n = n
  | 0 => rfl
  | k + 1 => by unfold root; rw [if_pos h]
theorem Cl.fuel {R V : List Int} (h : Cl R V) : ∀ {k k' n : Nat}, n < V.length → dep R n V.length ≤ k → dep R n V.length ≤ k' → root V k n = root V k' n
  | 0, k', n, hn, h1, _ => by
    have : par V n = n := by
      obtain ⟨p1, _, p3⟩ := h.parent hn
      rcases p3 with e | e
      · exact e
      · have := dep_lt e p1; omega
    rw [root_stay this, root_stay this]
  | k + 1, 0, n, hn, _, h2 => by
    have : par V n = n := by
      obtain ⟨p1, _, p3⟩ := h.parent hn
      rcases p3 with e | e
      · exact e
      · have := dep_lt e p1; omega
    rw [root_stay this, root_stay this]
  | k + 1, k' + 1, n, hn, h1, h2 => by
    unfold root
    by_cases e : par V n = n
    · rw [if_pos e, if_pos e]
    · rw [if_neg e, if_neg e]
      obtain ⟨p1, _, p3⟩ := h.parent hn
      have := dep_lt (p3.resolve_left e) p1
      exact h.fuel p1 (by omega) (by omega)
theorem Cl.fst_eq {R V : List Int} (h : Cl R V) {n : Nat} (hn : n < V.length) : fst V n = if par V n = n then n else fst V (par V n) := by
  unfold fst
  have hd := dep_in R hn
  obtain ⟨k, hk⟩ : ∃ k, V.length = k + 1 := ⟨V.length - 1, by omega⟩
  by_cases e : par V n = n
  · rw [if_pos e, root_stay e]
  · rw [if_neg e]
    obtain ⟨p1, _, p3⟩ := h.parent hn
    have hp := dep_lt (p3.resolve_left e) p1
    have e2 : root V V.length n = root V k (par V n) := by rw [hk]; show (if par V n = n then n else root V k (par V n)) = _; rw [if_neg e]
    rw [e2]
    exact h.fuel p1 (by omega) (by omega)
theorem Cl.fst_self {R V : List Int} (h : Cl R V) {n : Nat} (hn : n < V.length) (e : par V n = n) : fst V n = n := by rw [h.fst_eq hn, if_pos e]
theorem Cl.fst_up {R V : List Int} (h : Cl R V) {n : Nat} (hn : n < V.length) : fst V (par V n) = fst V n := by
  by_cases e : par V n = n
  · rw [e]
  · rw [h.fst_eq hn, if_neg e]
/-- a first one is there, is its own, and is ahead -/
theorem Cl.fst_in {R V : List Int} (h : Cl R V) : ∀ n, n < V.length → fst V n < V.length ∧ par V (fst V n) = fst V n ∧ (fst V n = n ∨ lessB R (fst V n) n = true) := by
  refine h.ind fun n hn ih => ?_
  by_cases e : par V n = n
  · rw [h.fst_self hn e]; exact ⟨hn, e, .inl rfl⟩
  · rw [← h.fst_up hn]
    obtain ⟨a, b, c⟩ := ih e
    have p3 := (h.parent hn).2.2.resolve_left e
    refine ⟨a, b, .inr ?_⟩
    rcases c with c | c
    · rw [c]; exact p3
    · exact less_trans c p3
theorem par_set {V : List Int} {i p n : Nat} (hi : i < V.length) : par (V.set i (p : Int)) n = if n = i then p else par V n := by
  unfold par
  by_cases e : n = i
  · subst e
    rw [if_pos rfl, List.getD_eq_getElem?_getD, List.getElem?_set_self hi]; rfl
  · rw [if_neg e, List.getD_eq_getElem?_getD, List.getD_eq_getElem?_getD, List.getElem?_set_ne (fun h => e h.symm)]
theorem Cl.set {R V : List Int} (h : Cl R V) {i p : Nat} (_hi : i < V.length) (hp : p < V.length) (hl : p = i ∨ lessB R p i = true) : Cl R (V.set i (p : Int)) := by
  intro n hn
  rw [List.length_set] at hn ⊢
  by_cases e : i = n
  · subst e
    exact ⟨p, hp, List.getElem?_set_self hn, hl⟩
  · rw [List.getElem?_set_ne e]
    exact h n hn
/-- two classes are joined: y's first one is x from now on -/
theorem Cl.join {R V : List Int} (h : Cl R V) {x y : Nat} (hx : x < V.length) (hy : y < V.length) (px : par V x = x) (py : par V y = y) (hl : lessB R x y = true) : Cl R (V.set y (x : Int)) ∧ ∀ n, n < V.length → fst (V.set y (x : Int)) n = if fst V n = y then x else fst V n := by
  have h' : Cl R (V.set y (x : Int)) := h.set hy hx (.inr hl)
  have hne : x ≠ y := fun e => by rw [e, less_self] at hl; cases hl
  refine ⟨h', ?_⟩
  have := h'.ind (P := fun n => fst (V.set y (x : Int)) n = if fst V n = y then x else fst V n) fun n hn ih => ?_
  · exact fun n hn => this n (by rw [List.length_set]; exact hn)
  · rw [h'.fst_eq hn]
    rw [List.length_set] at hn
    rw [par_set hy] at ih ⊢
    by_cases e : n = y
    · subst e
      rw [if_pos rfl] at ih ⊢
      rw [if_neg hne, ih hne, h.fst_self hx px, if_neg hne, h.fst_self hn py, if_pos rfl]
    · rw [if_neg e] at ih ⊢
      by_cases e2 : par V n = n
      · rw [if_pos e2, h.fst_self hn e2, if_neg e]
      · rw [if_neg e2, ih e2, h.fst_up hn]
theorem Cl.add {R V : List Int} (h : Cl R V) : Cl R (V ++ [(V.length : Int)]) := by
  intro n hn
  rw [List.length_append, List.length_singleton] at hn ⊢
  by_cases e : n < V.length
  · obtain ⟨p, h1, h2, h3⟩ := h n e
    exact ⟨p, by omega, by rw [List.getElem?_append_left e]; exact h2, h3⟩
  · obtain rfl : n = V.length := by omega
    exact ⟨V.length, by omega, by rw [List.getElem?_append_right (Nat.le_refl _)]; simp, .inl rfl⟩
def okB (R V : List Int) (n : Nat) : Bool := (V.getD n 0 == (n : Int)) || (decide (0 ≤ V.getD n 0) && decide (V.getD n 0 < V.length) && lessB R (V.getD n 0) n)
def clB (R V : List Int) : Bool := decide (∀ n, n < V.length → okB R V n = true)
theorem cl_of {R V : List Int} (h : clB R V = true) : Cl R V := by
  have h' := of_decide_eq_true h
  intro n hn
  have := h' n hn
  unfold okB at this
  have hv : V[n]? = some (V.getD n 0) := by rw [List.getD_eq_getElem?_getD, List.getElem?_eq_getElem hn]; rfl
  rcases (Bool.or_eq_true _ _).mp this with e | e
  · have e' := eq_of_beq e
    exact ⟨n, hn, by rw [hv, e'], .inl rfl⟩
  · rw [Bool.and_eq_true, Bool.and_eq_true] at e
    obtain ⟨⟨e1, e2⟩, e3⟩ := e
    have e1 := of_decide_eq_true e1
    have e2 := of_decide_eq_true e2
    obtain ⟨p, hp⟩ := Int.eq_ofNat_of_zero_le e1
    rw [hp] at hv e2 e3
    exact ⟨p, by omega, hv, .inr e3⟩
end Go.Proofs.YtjmopbimleoidaaGreat.Uf

namespace Go.Proofs.YtjmopbimleoidaaGreat.Tr
open Go.RowKit Kit

set_option maxHeartbeats 400000 in
theorem ints_same (A B : Option Addr) (n c n' c' : Nat) (l : List Int) (w : World) (hn : n = l.length) (hn' : n' = l.length) (hr : Rds w w.heap.size A (cellsI l)) (hr' : Rds w w.heap.size B (cellsI l)) (hl : l.length ≤ 1000000) :
    Calls Tryz.prog 16 #[.slice A n c, .slice B n' c'] w fun e w' => e = .returned (.bool true) ∧ ∃ d, w' = w.drewN d := by
  subst hn
  subst hn'
  have hne : ((l.length : Int) != (l.length : Int)) = false := by simp
  have HR := Lib.hid hr
  have HR' := Lib.hid hr'
  clear hr hr'
  go_enter Tryz.func16, Tryz.ntmps16
  go_wp2_with fail
  go_loopw [5] (fun i wr => ∃ k : Nat, k ≤ l.length ∧ i = .int .i64 k ∧ ∃ d, wr = w.drewN d) (fun i _ => l.length - (intOf i).toNat)
  case atStart => exact ⟨0, Nat.zero_le _, rfl, 0, rfl⟩
  case round =>
    obtain ⟨k, hk, rfl, d, rfl⟩ := hrel
    by_cases hlt : k < l.length
    · obtain ⟨ad, e, hb, c0⟩ := HR.out.int_at hlt
      obtain ⟨ad', e', hb', c0'⟩ := HR'.out.int_at hlt
      have HE := Lib.hid e
      have HE' := Lib.hid e'
      clear e e'
      rw [HE.out, HE'.out]
      have he' : (l[k] != l[k]) = false := by simp
      go_wp2_with fail
      go_region
      all_goals go_wp2_with fail
      all_goals go_roundw
      case rel => exact ⟨k + 1, by omega, by go_num, d + 1, rfl⟩
      case measure => simp [intOf]; omega
    · go_wp2_with fail
      go_ret
      exact ⟨rfl, d, rfl⟩
theorem drewN_add (w : World) (a b : Nat) : (w.drewN a).drewN b = w.drewN (a + b) := by simp [World.drewN, Nat.add_assoc]
theorem q_drewN (w : World) {w' : World} (h : ∃ d, w' = w.drewN d) : Q w w' := by
  obtain ⟨d, rfl⟩ := h
  exact (Q.refl w).drewN d

def fewB (c : Cells) : Bool := decide ((c.V.length : Int) + c.N.length + c.M.length ≤ 500)
/-- a row that is written: nil, or in a block of its own, from block B on -/
def OwnO (w : World) (B : Nat) (A : Option Addr) (cs : List Value) : Prop := 0 < cs.length → ∃ g, A = some ⟨g, 0, none⟩ ∧ B ≤ g ∧ OwnC w g cs
theorem OwnO.q {w w' : World} {B : Nat} {A : Option Addr} {cs : List Value} (h : OwnO w B A cs) (q : Q w w') : OwnO w' B A cs := fun h0 => by
  obtain ⟨g, e, hb, hc⟩ := h h0
  exact ⟨g, e, hb, hc.q q⟩
theorem OwnO.take {w : World} {B : Nat} {A : Option Addr} {cs : List Value} (h : OwnO w B A cs) (n : Nat) : OwnO w B A (cs.take n) := fun h0 => by
  obtain ⟨g, e, hb, hc⟩ := h (by rw [List.length_take] at h0; omega)
  exact ⟨g, e, hb, hc.take n⟩

def RefCells (c : Cells) (w : World) (e : Ending) (w' : World) : Prop := ∃ v, e = .returned (.tuple #[v, .bool (backs c.N c.V).isSome]) ∧ Q w w'

theorem back1_nil (was : Int) (v : List Int) (h : v.length = 0) : back1 (-1, was) v = none := by unfold back1; rw [if_pos rfl, if_pos h]
theorem back1_cut (was : Int) (v : List Int) (h : 0 < v.length) : back1 (-1, was) v = some (v.take (v.length - 1)) := by unfold back1; rw [if_pos rfl, if_neg (by omega)]
theorem back1_put (a : Nat) (was : Int) (v : List Int) (h : a < v.length) : back1 ((a : Int), was) v = some (v.set a was) := by
  unfold back1
  rw [if_neg (by show ¬ (a : Int) = -1; omega), if_pos ⟨by show (0 : Int) ≤ a; omega, by show (a : Int) < _; omega⟩]; rfl
theorem back1_no (n : Note) (v : List Int) (h1 : n.1 ≠ -1) (h : ¬ (0 ≤ n.1 ∧ n.1 < v.length)) : back1 n v = none := by unfold back1; rw [if_neg h1, if_neg h]
theorem slice_toJ (A : Option Addr) (n c l : Nat) (i : Int) (hi : i = l) (h : l ≤ c) (u : World) : (Instr.slice 24 (.slice A n c) none (some (.int .i64 i)) none).run Tryz.prog u = .ok (.slice A l c) u := by
  subst hi
  obtain ⟨i0, hi, hz0, hz1, hz2⟩ := info_parts intInfo
  simp [Instr.slice, run_underlying Tryz.underlying24, Instr.sliceBounds, Instr.sliceBound, asIntOf, sizeOf, typeInfo, hi, h, Addr.add]

set_option maxRecDepth 100000 in
set_option maxHeartbeats 4000000 in
theorem refCells_any (c : Cells) (A D E : Option Addr) (n1 k1 n2 k2 n3 k3 : Nat) (w : World) (h1 : n1 = c.V.length) (h2 : n2 = c.N.length) (h3 : n3 = c.M.length) (h : Rd w c A k1 D k2 E k3) (hf : Few c 1000000) :
    Calls Tryz.prog 126 #[.agg #[.slice A n1 k1, .slice D n2 k2, .slice E n3 k3], .int .i64 0] w (RefCells c w) := by
  subst h1 h2 h3
  obtain ⟨fv, fn, fm⟩ := hf
  obtain ⟨i0, hi, hz0, hz1, hz2⟩ := info_parts intInfo
  have Hi := Lib.hid hi
  have Hz0 := Lib.hid hz0
  have Hz1 := Lib.hid hz1
  have Hz2 := Lib.hid hz2
  clear hi hz0 hz1 hz2
  have q0 := (Q.refl w).alloc (Obj.cells #[Value.slice A c.V.length k1, Value.slice D c.N.length k2, Value.slice E c.M.length k3] 29)
  have HB := Lib.hid (Box3.new w (Value.slice A c.V.length k1) (Value.slice D c.N.length k2) (Value.slice E c.M.length k3) 29)
  have HR := Lib.hid (h.q q0)
  have HN := Lib.hid h.n
  clear h
  go_enter Tryz.func126, Tryz.ntmps126
  go_upto_region 1 with fail
  generalize w.alloc (Obj.cells #[Value.slice A c.V.length k1, Value.slice D c.N.length k2, Value.slice E c.M.length k3] 29) = W0 at *
  have b0 := HB.out.c0
  have b1 := HB.out.c1
  have hlt0 := HB.out.lt
  have qa := (Q.refl W0).alloc (Obj.cells #[] 3)
  have HsV := Lib.hid (HR.out.v.q qa)
  have Ho := Lib.hid (own_empty (base := w.heap.size + 1) (e := 3) (size := 1) (by omega) (heap_alloc_new W0 (Obj.cells #[] 3)))
  go_upto_region 2 with (at_builtin; refine wpList_append_src _ rfl (.tmp 9) (.tmp 11) _ rfl (w.heap.size + 1) 3 i0 _ 1 8 Tryz.underlying24 Hi.out Hz0.out Hz1.out Hz2.out rfl (by omega) (.slice (some ⟨W0.heap.size, 0, none⟩) 0 0) 0 [] rfl Ho.out A c.V.length k1 (cellsI c.V) rfl (by rw [cellsI_len]; omega) HsV.out.src (cellsI_one c.V) (by unfold maxLen; omega) (by omega) (by simp; omega) ?_; intro v' w' own' gr' _; have Own := Lib.hid own'; have q2 : Q W0 w' := qa.grown gr' (by simp) (by simp [Value.ownBlock]); clear own' gr')
  have own2 := Own.out
  rw [Nat.zero_add, List.nil_append] at own2
  obtain ⟨A2, K, hv', hK, hO⟩ : ∃ A c', v' = .slice A c.V.length c' ∧ c.V.length ≤ c' ∧ OwnO w' (w.heap.size + 1) A (cellsI c.V) := by
    have h2 := own2
    obtain ⟨hl, ⟨rfl, h0⟩ | ⟨g, cap, cur, rfl, hg, hh, hc, _⟩⟩ := own2
    · exact ⟨none, 0, by rw [h0], by omega, fun h => by rw [cellsI_len] at h; omega⟩
    · exact ⟨_, cap, rfl, hc, fun _ => ⟨g, rfl, hg, OwnC.of_row h2⟩⟩
  have HO := Lib.hid hO
  have HB2 := Lib.hid (HB.out.q q2)
  have HR2 := Lib.hid (HR.out.q q2)
  have q02 := Lib.hid (q0.trans q2)
  have HN2 := Lib.hid (HN.out.keep q02.out)
  have b1' := HB2.out.c1
  have hl2 := HB2.out.lt
  have HV := Lib.hid hv'
  have Hst : Hid ((backs c.N c.V).isSome = (backR (c.N.take c.N.length).reverse c.V).isSome) := by rw [List.take_length]; exact Lib.hid rfl
  clear own2 hv' hO b0 b1 hlt0 qa Own Ho HsV HR HB q0 q2
  rw [HV.out]
  go_wp2_with fail
  go_loopw [6, 7] (fun vv i wr => ∃ (B : Option Addr) (v : List Int) (k : Nat) (j : Int), k ≤ c.N.length ∧ i = .int .i64 j ∧ Hid (j = (k : Int) - 1) ∧ vv = .slice B v.length K ∧ v.length ≤ K ∧ v.length ≤ 1000000 ∧ Hid (OwnO wr (w.heap.size + 1) B (cellsI v)) ∧ Hid (Q w wr) ∧ Hid (Box3 wr w.heap.size (Value.slice A c.V.length k1) (Value.slice D c.N.length k2) (Value.slice E c.M.length k3)) ∧ Hid (Rds wr w.heap.size D (cellsP c.N)) ∧ Hid ((backs c.N c.V).isSome = (backR (c.N.take k).reverse v).isSome)) (fun _ i _ => (intOf i + 1).toNat)
  case atStart => exact ⟨A2, c.V, c.N.length, _, Nat.le_refl _, rfl, Lib.hid rfl, rfl, hK, fv, HO, q02, HB2, HN2, Hst⟩
  case round =>
    clear HO q02 HB2 HR2 HN HN2 Hst b1' hl2
    obtain ⟨B, v, k, j, hk, rfl, HJ, rfl, hvK, hvl, HO, HQ, HB, HR, HH⟩ := hrel
    have b1 := HB.out.c1
    rcases k with _ | k
    · obtain rfl : j = -1 := by have := HJ.out; simpa using this
      have HV0 : Hid ((backs c.N c.V).isSome = true) := HH.out
      go_wp2_with fail
      go_ret2
      exact ⟨_, by rw [HV0.out]; rfl, HQ.out⟩
    · obtain rfl : j = (k : Int) := by have := HJ.out; omega
      have hkl : k < c.N.length := by omega
      have hj0 : (0 : Int) ≤ (k : Int) := Int.natCast_nonneg _
      have HS := HH.out
      rw [backR_at c.N k hkl] at HS
      obtain ⟨ad, e, hb, c0, c1⟩ := HR.out.pair_at hkl
      have HE := Lib.hid e
      clear e
      have hlt := HB.out.lt
      generalize c.N[k] = x at *
      obtain ⟨a, was⟩ := x
      have q1 := (Q.refl wr).alloc (Obj.cells #[.int .i64 a, .int .i64 was] 113)
      by_cases ha : a = -1
      · subst ha
        by_cases hv0 : v.length = 0
        · have HF : Hid ((backs c.N c.V).isSome = false) := by rw [back1_nil was v hv0] at HS; exact Lib.hid HS
          have dl : decide (0 < v.length) = false := decide_eq_false (by omega)
          clear HS hv0
          rw [HE.out] at b1
          go_wp2_with fail
          go_ret2
          exact ⟨_, by rw [HF.out]; rfl, HQ.out.alloc _⟩
        · have hv1 : 0 < v.length := by omega
          have HF : Hid ((backs c.N c.V).isSome = (backR (c.N.take k).reverse (v.take (v.length - 1))).isSome) := by rw [back1_cut was v hv1] at HS; exact Lib.hid HS
          have dl : decide (0 < v.length) = true := decide_eq_true hv1
          have hsl := fun u => slice_toJ B v.length K (v.length - 1) ((v.length : Int) - 1) (by omega) (by omega) u
          have hlen : Hid ((v.take (v.length - 1)).length = v.length - 1) := by unfold Hid; rw [List.length_take]; omega
          have HOt := HO.out.take (v.length - 1)
          have HOt' : Hid (OwnO wr (w.heap.size + 1) B (cellsI (v.take (v.length - 1)))) := by rw [show (cellsI v).take (v.length - 1) = cellsI (v.take (v.length - 1)) by simp [cellsI, List.map_take]] at HOt; exact HOt
          clear HS hv0 HOt
          rw [HE.out] at b1
          go_wp2_with fail
          go_roundw
          case rel => exact ⟨B, v.take (v.length - 1), k, _, by omega, rfl, Lib.hid (by omega), by rw [hlen.out], by rw [hlen.out]; omega, by rw [hlen.out]; omega, Lib.hid (HOt'.out.q q1), Lib.hid (HQ.out.alloc _), Lib.hid (HB.out.q q1), Lib.hid (HR.out.keep (q1.mono (Nat.le_of_lt hlt))), HF⟩
          case measure => simp [intOf]
      · by_cases hp : 0 ≤ a ∧ a < v.length
        · obtain ⟨m, rfl⟩ := Int.eq_ofNat_of_zero_le hp.1
          have hml : m < v.length := by omega
          have HF : Hid ((backs c.N c.V).isSome = (backR (c.N.take k).reverse (v.set m was)).isSome) := by rw [back1_put m was v hml] at HS; exact Lib.hid HS
          have dn : (((m : Nat) : Int) == -1) = false := by simp
          have d1 : decide (0 ≤ ((m : Nat) : Int)) = true := decide_eq_true hp.1
          have d2 : decide (m < v.length) = true := decide_eq_true hml
          obtain ⟨g, e, hg, hc⟩ := HO.out (by rw [cellsI_len]; omega)
          have HE2 := Lib.hid e
          have HC := Lib.hid (hc.q q1)
          have HCw := Lib.hid hc
          have oc := (HC.out.2 m _ (cellsI_at hml)).1
          have of := (HC.out.2 m _ (cellsI_at hml)).2
          have hgs := hc.1
          clear HS hp ha e hc
          rw [HE.out] at b1
          rw [HE2.out]
          go_wp2_with fail
          have hg2 := setCell_grown wr g m (.int .i64 was)
          have q3 := (Q.refl (wr.setCell ⟨g, m, none⟩ (.int .i64 was))).alloc (Obj.cells #[.int .i64 (m : Int), .int .i64 was] 113)
          have hz : (wr.setCell ⟨g, m, none⟩ (.int .i64 was)).heap.size = wr.heap.size := by simp [World.setCell]
          go_roundw
          case rel => exact ⟨some ⟨g, 0, none⟩, v.set m was, k, _, by omega, rfl, Lib.hid (by omega), by rw [List.length_set], by rw [List.length_set]; exact hvK, by rw [List.length_set]; exact hvl, Lib.hid (fun _ => ⟨g, rfl, hg, by rw [cellsI_set]; exact (HCw.out.set (by rw [cellsI_len]; exact hml) _).q q3⟩), Lib.hid ((grown_q hg2 HQ.out (by omega)).alloc _), Lib.hid ((HB.out.grown hg2 (by omega)).q q3), Lib.hid ((HR.out.keep (Below.grown (Below.refl w.heap.size wr) hg2 (Nat.le_of_lt HB.out.lt) (fun i e => by injection e with e; omega))).keep (q3.mono (by rw [hz]; exact Nat.le_of_lt HB.out.lt))), HF⟩
          case measure => simp [intOf]
        · have HF : Hid ((backs c.N c.V).isSome = false) := by rw [back1_no (a, was) v ha hp] at HS; exact Lib.hid HS
          have dn : (a == -1) = false := by simpa using ha
          by_cases h0 : 0 ≤ a
          · have d1 : decide (0 ≤ a) = true := decide_eq_true h0
            have d2 : decide (a < (v.length : Int)) = false := decide_eq_false (fun h => hp ⟨h0, h⟩)
            clear HS hp ha h0
            rw [HE.out] at b1
            go_wp2_with fail
            go_ret2
            exact ⟨_, by rw [HF.out]; rfl, HQ.out.alloc _⟩
          · have d1 : decide (0 ≤ a) = false := decide_eq_false h0
            clear HS hp ha h0
            rw [HE.out] at b1
            go_wp2_with fail
            go_ret2
            exact ⟨_, by rw [HF.out]; rfl, HQ.out.alloc _⟩

theorem note_struct : Tryz.prog.underlying 113 = some (.struct (Tryz.prog.fieldsOf 113)) := by kernel_rfl
theorem note_held : Tryz.prog.stoodInHeld 113 = false := by kernel_rfl
theorem note_fields : (Tryz.prog.fieldsOf 113).toList.map (fun f => (f.name == "_", f.type, f.offset)) = [(false, 3, 0), (false, 3, 1)] := by kernel_rfl
theorem part_int (w : World) (xs : Array Value) (k : Nat) (x : Int) (h : xs[k]? = some (.int .i64 x)) : (part 3 xs k).run Tryz.prog w = .ok (.int .i64 x) w := run_part_plain w (by kernel_rfl) h
theorem run_eq_note (w : World) (a b : Int) : (Op.equalIn 10000 113 (.agg #[.int .i64 a, .int .i64 b]) (.agg #[.int .i64 a, .int .i64 b])).run Tryz.prog w = .ok true w := by
  rw [show (10000 : Nat) = 9999 + 1 from rfl, run_equalIn_struct w 9999 _ _ _ note_struct note_held]
  have hf := note_fields
  match hl : (Tryz.prog.fieldsOf 113).toList with
  | [] => rw [hl] at hf; simp at hf
  | [_] => rw [hl] at hf; simp at hf
  | f :: g :: h :: r => rw [hl] at hf; simp at hf
  | [f, g] =>
    rw [hl] at hf
    simp only [List.map_cons, List.map_nil, List.cons.injEq, Prod.mk.injEq, and_true] at hf
    obtain ⟨⟨n0, t0, o0⟩, n1, t1, o1⟩ := hf
    have n0' : f.name ≠ "_" := by simpa using n0
    have n1' : g.name ≠ "_" := by simpa using n1
    have e : ∀ x y : Int, (Op.equalIn 9999 3 (.int .i64 x) (.int .i64 y)).run Tryz.prog w = .ok (x == y) w := fun x y => run_equalIn_int w 9998 _ .i64 .i64 x y Tryz.underlying3
    have p0 := part_int w #[.int .i64 a, .int .i64 b] 0 a rfl
    have p2 := part_int w #[.int .i64 a, .int .i64 b] 1 b rfl
    simp only [Op.eqFields, if_pos n0', if_pos n1', t0, t1, o0, o1, Sem.run_bind, p0, Result.andThen_ok, e, beq_self_eq_true]
    simp only [Bool.not_true, Bool.false_eq_true, if_false, Sem.run_bind, p2, Result.andThen_ok, e, beq_self_eq_true]
    simp [Sem.run_pure]
theorem run_neq_note (w : World) (a b : Int) : (binOp .neq 113 (.agg #[.int .i64 a, .int .i64 b]) (.agg #[.int .i64 a, .int .i64 b])).run Tryz.prog w = .ok (.bool false) w := by
  rw [run_neq_struct, run_eq_note]; rfl

set_option maxRecDepth 100000 in
set_option maxHeartbeats 2000000 in
theorem same_any (c : Cells) (A D E A' D' E' : Option Addr) (n1 k1 n2 k2 n3 k3 n1' k1' n2' k2' n3' k3' : Nat) (w : World) (h1 : n1 = c.V.length) (h2 : n2 = c.N.length) (h3 : n3 = c.M.length) (h1' : n1' = c.V.length) (h2' : n2' = c.N.length) (h3' : n3' = c.M.length) (h : Rd w c A k1 D k2 E k3) (h' : Rd w c A' k1' D' k2' E' k3') (hf : Few c 1000000) :
    Calls Tryz.prog 49 #[.agg #[.slice A n1 k1, .slice D n2 k2, .slice E n3 k3], .agg #[.slice A' n1' k1', .slice D' n2' k2', .slice E' n3' k3']] w fun e w' => e = .returned (.bool true) ∧ Q w w' := by
  subst h1 h2 h3 h1' h2' h3'
  obtain ⟨fv, fn, fm⟩ := hf
  have qa := (Q.refl w).alloc (Obj.cells #[Value.slice A c.V.length k1, Value.slice D c.N.length k2, Value.slice E c.M.length k3] 29)
  have q0 := qa.alloc (Obj.cells #[Value.slice A' c.V.length k1', Value.slice D' c.N.length k2', Value.slice E' c.M.length k3'] 29)
  have HB := Lib.hid ((Box3.new w (Value.slice A c.V.length k1) (Value.slice D c.N.length k2) (Value.slice E c.M.length k3) 29).q ((Q.refl _).alloc (Obj.cells #[Value.slice A' c.V.length k1', Value.slice D' c.N.length k2', Value.slice E' c.M.length k3'] 29)))
  have X := Box3.new (w.alloc (Obj.cells #[Value.slice A c.V.length k1, Value.slice D c.N.length k2, Value.slice E c.M.length k3] 29)) (Value.slice A' c.V.length k1') (Value.slice D' c.N.length k2') (Value.slice E' c.M.length k3') 29
  rw [World.size_alloc] at X
  have HB' := Lib.hid X
  have HR := Lib.hid (h.q q0)
  have HR' := Lib.hid (h'.q q0)
  have hne : ((c.N.length : Int) != (c.N.length : Int)) = false := by simp
  clear h h' X qa
  go_enter Tryz.func49, Tryz.ntmps49
  go_wp2_with fail
  generalize (w.alloc (Obj.cells #[Value.slice A c.V.length k1, Value.slice D c.N.length k2, Value.slice E c.M.length k3] 29)).alloc (Obj.cells #[Value.slice A' c.V.length k1', Value.slice D' c.N.length k2', Value.slice E' c.M.length k3'] 29) = W0 at *
  go_loopw [5] (fun i wr => ∃ k : Nat, k ≤ c.N.length ∧ i = .int .i64 k ∧ Hid (∃ d, wr = W0.drewN d)) (fun i _ => c.N.length - (intOf i).toNat)
  case atStart => exact ⟨0, Nat.zero_le _, rfl, Lib.hid ⟨0, rfl⟩⟩
  case round =>
    obtain ⟨k, hk, rfl, HD⟩ := hrel
    have qr := Lib.hid (q_drewN W0 HD.out)
    have b0 := (HB.out.q qr.out).c0
    have b1 := (HB.out.q qr.out).c1
    have b2 := (HB.out.q qr.out).c2
    have b0' := (HB'.out.q qr.out).c0
    have b1' := (HB'.out.q qr.out).c1
    have b2' := (HB'.out.q qr.out).c2
    by_cases hlt : k < c.N.length
    · obtain ⟨ad, e, hb, c0, c1⟩ := (HR.out.n.q qr.out).pair_at hlt
      obtain ⟨ad', e', hb', c0', c1'⟩ := (HR'.out.n.q qr.out).pair_at hlt
      have j0 : (0 : Int) ≤ (k : Int) := Int.natCast_nonneg _
      have j1 : (k : Int) < (c.N.length : Int) := by omega
      have hnq := fun u => run_neq_note u c.N[k].1 c.N[k].2
      rw [e] at b1
      rw [e'] at b1'
      clear e e'
      go_wp2_with fail
      go_quiet (fail)
      go_wp2_with fail
      go_roundw
      case rel => exact ⟨k + 1, by omega, by go_num, Lib.hid (by obtain ⟨d, rfl⟩ := HD.out; exact ⟨_, drewN_add _ _ _⟩)⟩
      case measure => simp [intOf]; omega
    · go_wp2_with fail
      refine (ints_same _ _ _ _ _ _ c.V _ rfl rfl (HR.out.v.q qr.out) (HR'.out.v.q qr.out) fv).mono ?_
      rintro e w1 ⟨rfl, hd1⟩
      have q1 := Lib.hid (q_drewN _ hd1)
      clear b0 b1 b0' b1' hd1
      have b2 := (HB.out.q (qr.out.trans q1.out)).c2
      have b2' := (HB'.out.q (qr.out.trans q1.out)).c2
      go_wp2_with fail
      refine (ints_same _ _ _ _ _ _ c.M _ rfl rfl (HR.out.m.q (qr.out.trans q1.out)) (HR'.out.m.q (qr.out.trans q1.out)) fm).mono ?_
      rintro e w2 ⟨rfl, hd2⟩
      have q2 := Lib.hid (q_drewN _ hd2)
      clear hd2
      go_wp2_with fail
      go_ret
      exact ⟨rfl, q0.trans ((qr.out.trans q1.out).trans q2.out)⟩
end Go.Proofs.YtjmopbimleoidaaGreat.Tr

namespace Go.Proofs.YtjmopbimleoidaaGreat.Tr
open Go.RowKit Kit

def OutPostE (c : Cells) (er : Int) (w : World) (e : Ending) (w' : World) : Prop :=
  ∃ g1 k1 g2 k2 g3 k3, e = .returned (.tuple #[.agg #[.slice (some ⟨g1, 0, none⟩) c.V.length k1, .slice (some ⟨g2, 0, none⟩) c.N.length k2, .slice (some ⟨g3, 0, none⟩) c.M.length k3], .int .i64 er]) ∧ Out w w' c g1 k1 g2 k2 g3 k3

/-- the boxes at a call's start: what came in, and the result's cells -/
theorem boxes (w : World) (a b c : Value) (t : TypeId) : ∃ W0, W0 = (w.alloc (Obj.cells #[a, b, c] t)).alloc (Obj.cells #[Value.slice none 0 0, Value.slice none 0 0, Value.slice none 0 0] t) ∧ Q w W0 ∧ W0.heap.size = w.heap.size + 2 ∧
    Box3 W0 w.heap.size a b c ∧ Box3 W0 (w.heap.size + 1) (Value.slice none 0 0) (Value.slice none 0 0) (Value.slice none 0 0) := by
  refine ⟨_, rfl, ((Q.refl w).alloc _).alloc _, by simp, (Box3.new w a b c t).q ((Q.refl _).alloc _), ?_⟩
  have X := Box3.new (w.alloc (Obj.cells #[a, b, c] t)) (Value.slice none 0 0) (Value.slice none 0 0) (Value.slice none 0 0) t
  rwa [World.size_alloc] at X

theorem src1 (w : World) (v : Value) (t : TypeId) : ∀ j u, [v][j]? = some u → (w.alloc (.cells #[v] t)).cell? ((⟨w.heap.size, 0, none⟩ : Addr).add j) = some u := by
  intro j u hu
  rw [add_zero_head, cell_of_row _ _ _ _ _ _ (heap_alloc_new w _)]
  simpa using hu

end Go.Proofs.YtjmopbimleoidaaGreat.Tr

namespace Go.Proofs.YtjmopbimleoidaaGreat.Tr
open Go.RowKit Kit

theorem Rds.int_some {w : World} {B : Nat} {ad : Addr} {l : List Int} (h : Rds w B (some ad) (cellsI l)) {k : Nat} (hk : k < l.length) : w.cell? (ad.add k) = some (.int .i64 l[k]) := by
  obtain ⟨ad', e, _, hc⟩ := h.int_at hk
  injection e with e
  subst e
  exact hc
/-- in the midst of a call: what came in, the result's cells, and the copy's box -/
structure St (w W : World) (B : Nat) (a b d x y z : Value) : Prop where
  ib : Box3 W w.heap.size a b d
  rb : Box3 W (w.heap.size + 1) (.slice none 0 0) (.slice none 0 0) (.slice none 0 0)
  tb : Box3 W B x y z
  hB : w.heap.size + 1 < B
  q : Q w W
theorem St.grown {w W W' : World} {B g : Nat} {a b d x y z : Value} (h : St w W B a b d x y z) (hg : W.grownBy W' (some g)) (h1 : w.heap.size + 1 < g) (h2 : g ≠ B) : St w W' B a b d x y z :=
  ⟨h.ib.grown hg (by omega), h.rb.grown hg (by omega), h.tb.grown hg h2, h.hB, grown_q hg h.q (by omega)⟩
theorem St.more {w W W' : World} {B : Nat} {a b d x y z : Value} (h : St w W B a b d x y z) (q : Q W W') : St w W' B a b d x y z := ⟨h.ib.q q, h.rb.q q, h.tb.q q, h.hB, h.q.trans q⟩
theorem St.set0 {w W : World} {B : Nat} {a b d x y z : Value} (h : St w W B a b d x y z) (v : Value) : St w (W.setCell ⟨B, 0, none⟩ v) B a b d v y z :=
  ⟨h.ib.far (by have := h.hB; omega) _, h.rb.far (by have := h.hB; omega) _, h.tb.set0 v, h.hB, grown_q (setCell_grown W B 0 v) h.q (by have := h.hB; omega)⟩
theorem St.set1 {w W : World} {B : Nat} {a b d x y z : Value} (h : St w W B a b d x y z) (v : Value) : St w (W.setCell ⟨B, 1, none⟩ v) B a b d x v z :=
  ⟨h.ib.far (by have := h.hB; omega) _, h.rb.far (by have := h.hB; omega) _, h.tb.set1 v, h.hB, grown_q (setCell_grown W B 1 v) h.q (by have := h.hB; omega)⟩
theorem St.set2 {w W : World} {B : Nat} {a b d x y z : Value} (h : St w W B a b d x y z) (v : Value) : St w (W.setCell ⟨B, 2, none⟩ v) B a b d x y v :=
  ⟨h.ib.far (by have := h.hB; omega) _, h.rb.far (by have := h.hB; omega) _, h.tb.set2 v, h.hB, grown_q (setCell_grown W B 2 v) h.q (by have := h.hB; omega)⟩

/-- the three rows of the copy -/
structure Own3 (w W : World) (B : Nat) (c : Cells) (g1 k1 g2 k2 g3 k3 : Nat) : Prop where
  v : W.ownsRow (w.heap.size + 2) 3 1 (.slice (some ⟨g1, 0, none⟩) c.V.length k1) c.V.length (cellsI c.V)
  n : W.ownsRow (w.heap.size + 2) 113 2 (.slice (some ⟨g2, 0, none⟩) c.N.length k2) c.N.length (cellsP c.N)
  m : W.ownsRow (w.heap.size + 2) 3 1 (.slice (some ⟨g3, 0, none⟩) c.M.length k3) c.M.length (cellsI c.M)
  lv : c.V.length ≤ k1
  ln : c.N.length ≤ k2
  lm : c.M.length ≤ k3
  d12 : g1 < g2
  d23 : g2 < g3
  d3B : g3 < B
theorem Own3.lo {w W : World} {B : Nat} {c : Cells} {g1 k1 g2 k2 g3 k3 : Nat} (h : Own3 w W B c g1 k1 g2 k2 g3 k3) : w.heap.size + 1 < g1 := (h.v.lt g1 rfl).1
theorem Own3.far {w W W' : World} {B g : Nat} {c : Cells} {g1 k1 g2 k2 g3 k3 : Nat} (h : Own3 w W B c g1 k1 g2 k2 g3 k3) (hg : W.grownBy W' (some g)) (e1 : g ≠ g1) (e2 : g ≠ g2) (e3 : g ≠ g3) : Own3 w W' B c g1 k1 g2 k2 g3 k3 :=
  ⟨row_far h.v hg e1, row_far h.n hg e2, row_far h.m hg e3, h.lv, h.ln, h.lm, h.d12, h.d23, h.d3B⟩
theorem Own3.more {w W W' : World} {B : Nat} {c : Cells} {g1 k1 g2 k2 g3 k3 : Nat} (h : Own3 w W B c g1 k1 g2 k2 g3 k3) (q : Q W W') : Own3 w W' B c g1 k1 g2 k2 g3 k3 :=
  ⟨row_kept h.v q (Nat.le_refl _), row_kept h.n q (Nat.le_refl _), row_kept h.m q (Nat.le_refl _), h.lv, h.ln, h.lm, h.d12, h.d23, h.d3B⟩
theorem Own3.out {w W : World} {B : Nat} {c : Cells} {g1 k1 g2 k2 g3 k3 : Nat} (h : Own3 w W B c g1 k1 g2 k2 g3 k3) (q : Q w W) : Out w W c g1 k1 g2 k2 g3 k3 := by
  have := h.d12
  have := h.d23
  have := h.lo
  exact ⟨.of_row h.v, .of_row h.n, .of_row h.m, h.lv, h.ln, h.lm, by omega, by omega, by omega, by omega, by omega, by omega, q⟩
/-- behind the copy, in its box -/
theorem st_start {w W0 w1 : World} {c : Cells} {g1 g2 g3 : Nat} {a b d : Value} (q0 : Q w W0) (hz : W0.heap.size = w.heap.size + 2) (hB : Box3 W0 w.heap.size a b d) (hX : Box3 W0 (w.heap.size + 1) (.slice none 0 0) (.slice none 0 0) (.slice none 0 0)) (hC : Cop W0 w1 c g1 g2 g3) (x y z : Value) (t : TypeId) :
    St w (w1.alloc (.cells #[x, y, z] t)) w1.heap.size a b d x y z ∧ Own3 w (w1.alloc (.cells #[x, y, z] t)) w1.heap.size c g1 (c.V.length + 1) g2 (c.N.length + 1) g3 (c.M.length + 1) := by
  have q1 := hC.q.trans ((Q.refl w1).alloc (.cells #[x, y, z] t))
  have hs := hC.q.size
  refine ⟨⟨hB.q q1, hX.q q1, Box3.new w1 x y z t, by omega, q0.trans q1⟩, ⟨row_kept hC.v ((Q.refl w1).alloc _) (by omega), row_kept hC.n ((Q.refl w1).alloc _) (by omega), row_kept hC.m ((Q.refl w1).alloc _) (by omega), Nat.le_succ _, Nat.le_succ _, Nat.le_succ _, hC.d12, hC.d23, (hC.m.lt g3 rfl).2⟩⟩
/-- the answer: what stands in the result's cells -/
theorem out_end {w W : World} {c : Cells} {g1 k1 g2 k2 g3 k3 : Nat} (h : Out w W c g1 k1 g2 k2 g3 k3) (h1 : w.heap.size + 1 < g1) (h2 : w.heap.size + 1 < g2) (h3 : w.heap.size + 1 < g3) (x y z : Value) :
    Out w (((W.setCell ⟨w.heap.size + 1, 0, none⟩ x).setCell ⟨w.heap.size + 1, 1, none⟩ y).setCell ⟨w.heap.size + 1, 2, none⟩ z) c g1 k1 g2 k2 g3 k3 :=
  h.far (set3_grown W (w.heap.size + 1) x y z) (by omega) (by omega) (by omega) (by omega)

theorem src2 (w : World) (v u : Value) (t : TypeId) : ∀ j x, [v, u][j]? = some x → (w.alloc (.cells #[v, u] t)).cell? ((⟨w.heap.size, 0, none⟩ : Addr).add j) = some x := by
  intro j x hx
  rw [add_zero_head, cell_of_row _ _ _ _ _ _ (heap_alloc_new w _)]
  simpa using hx
theorem step_append_fits {P : Program} {w : World} {ops : Array Oper} {o : Oper} {a : Act} {K : Act → World → Prop} {R : Exit → Act → World → Prop} {E : Prop} (hgd : o.guard = none) (s x : Operand) (t : TypeId)
    (ho : o.op = .call { callee := .builtin .append, args := #[s, x], argTypes := #[t, t] })
    (base : Nat) (e : TypeId) (i : TypeInfo) (size : Nat) (ht : P.underlying t = some (.slice e)) (hi : P.info? e = some i) (hsize : i.size = size)
    (g n cap : Nat) (xs : List Value) (hs : a.eval s = .slice (some ⟨g, 0, none⟩) n cap) (hown : w.ownsRow base e size (.slice (some ⟨g, 0, none⟩) n cap) n xs)
    (ad : Addr) (m c : Nat) (news : List Value) (hx : a.eval x = .slice (some ad) m c) (hl : news.length = m * size) (hnews : ∀ j u, news[j]? = some u → w.cell? (ad.add j) = some u) (h1 : ∀ u ∈ news, u.oneCell' = true)
    (hroom : n + m ≤ cap)
    (h : ∀ w', w'.ownsRow base e size (.slice (some ⟨g, 0, none⟩) (n + m) cap) (n + m) (xs ++ news) → w.grownBy w' (some g) → K (a.put o.dst (.slice (some ⟨g, 0, none⟩) (n + m) cap)) w') :
    if Region.wanted o (yielded ops a.tmps) = true then Oper.wp P o a w K R else E := by
  have hw : Region.wanted o (yielded ops a.tmps) = true := by simp [Region.wanted, hgd]
  rw [if_pos hw]
  obtain ⟨w', hrun, h2, h3⟩ := run_append_fits (P := P) w base t o.type e i size ht hi hsize g n cap xs hown ad m c news hl hnews h1 hroom
  unfold Oper.wp execOp
  simp only [ho, resolve, invoke, builtin, Sem.run_bind, Sem.run_pure, Result.andThen_ok, List.map_toArray, List.map_cons, List.map_nil, hs, hx, hrun]
  exact h w' h2 h3
end Go.Proofs.YtjmopbimleoidaaGreat.Tr

namespace Go.Proofs.YtjmopbimleoidaaGreat.Tr
open Go.RowKit Kit

def setC (c : Cells) (at_ : Nat) (x : Int) : Cells := ⟨c.V.set at_ x, c.N ++ [((at_ : Int), c.V.getD at_ 0)], c.M⟩

set_option maxRecDepth 100000 in
set_option maxHeartbeats 2000000 in
theorem set_some (c : Cells) (a : Nat) (x : Int) (A D E : Option Addr) (n1 k1 n2 k2 n3 k3 : Nat) (w : World) (h1 : n1 = c.V.length) (h2 : n2 = c.N.length) (h3 : n3 = c.M.length) (h : Rd w c A k1 D k2 E k3) (hf : Few c 1000000) (ha : a < c.V.length) :
    Calls Tryz.prog 88 #[.agg #[.slice A n1 k1, .slice D n2 k2, .slice E n3 k3], .int .i64 (a : Int), .int .i64 x] w (OutPostE (setC c a x) 0 w) := by
  subst h1 h2 h3
  obtain ⟨W0, hW0, q0, hz0, hB, hX⟩ := boxes w (Value.slice A c.V.length k1) (Value.slice D c.N.length k2) (Value.slice E c.M.length k3) 29
  have HB := Lib.hid hB
  have HX := Lib.hid hX
  have HR := Lib.hid (h.q q0)
  have HZ := Lib.hid hz0
  have HW := Lib.hid hW0
  have Hf := Lib.hid hf
  obtain ⟨fv, fn, fm⟩ := hf
  obtain ⟨j0, hi, hz0', hz1, hz2⟩ := info_parts intInfo
  have Hi := Lib.hid hi
  have Hz1 := Lib.hid hz1
  clear hi hz0' hz1 hz2
  obtain ⟨j1, hi, hz0', hz1, hz2⟩ := info_parts noteInfo
  have Hi2 := Lib.hid hi
  have Hz2 := Lib.hid hz1
  clear hi hz0' hz1 hz2
  have hd : Hid ((decide (0 ≤ (a : Int)) && decide ((a : Int) < (c.V.length : Int))) = true) := by
    unfold Hid
    rw [decide_eq_true (show (0 : Int) ≤ (a : Int) by omega), decide_eq_true (show (a : Int) < (c.V.length : Int) by omega)]; rfl
  have Hga : Hid (c.V.getD a 0 = c.V[a]) := by unfold Hid; simp [ha]
  obtain ⟨ad, rfl, _, _⟩ := h.v.int_at ha
  clear h hB hX hz0 hW0
  go_enter Tryz.func88, Tryz.ntmps88
  go_upto_region 1 with fail
  rw [← HW.out]
  have c0 := HB.out.c0
  have c1 := HB.out.c1
  have c2 := HB.out.c2
  clear HW
  go_upto_region 2 with (go_at_call 121; refine (copyOf_any c _ _ _ _ _ _ _ _ _ _ rfl rfl rfl HR.out Hf.out).mono ?_; rintro e w1 ⟨g1, g2, g3, rfl, hC⟩; have HC := Lib.hid hC; clear hC)
  clear c0 c1 c2
  obtain ⟨hS, hO⟩ := st_start q0 HZ.out HB.out HX.out HC.out (.slice (some ⟨g1, 0, none⟩) c.V.length (c.V.length + 1)) (.slice (some ⟨g2, 0, none⟩) c.N.length (c.N.length + 1)) (.slice (some ⟨g3, 0, none⟩) c.M.length (c.M.length + 1)) 29
  have HRr := Lib.hid (((HR.out.q HC.out.q).q ((Q.refl w1).alloc (.cells #[(.slice (some ⟨g1, 0, none⟩) c.V.length (c.V.length + 1)), (.slice (some ⟨g2, 0, none⟩) c.N.length (c.N.length + 1)), (.slice (some ⟨g3, 0, none⟩) c.M.length (c.M.length + 1))] 29))))
  generalize w1.alloc (.cells #[(.slice (some ⟨g1, 0, none⟩) c.V.length (c.V.length + 1)), (.slice (some ⟨g2, 0, none⟩) c.N.length (c.N.length + 1)), (.slice (some ⟨g3, 0, none⟩) c.M.length (c.M.length + 1))] 29) = W1 at *
  generalize w1.heap.size = B at *
  have HO := Lib.hid hO
  have HS := Lib.hid hS
  have i0 := hS.ib.c0
  have i1 := hS.ib.c1
  have i2 := hS.ib.c2
  clear hO hS
  have t0 := HS.out.tb.c0
  have tf0 := HS.out.tb.f0
  have t1 := HS.out.tb.c1
  have tf1 := HS.out.tb.f1
  have t2 := HS.out.tb.c2
  have tf2 := HS.out.tb.f2
  have l1 := HO.out.lo
  have l2 := HO.out.d12
  have l3 := HO.out.d23
  have l4 := HO.out.d3B
  have ca := HRr.out.v.int_some ha
  go_wp2_with (refine (place_any _ _ _).mono ?_; rintro e w2 ⟨rfl, rfl⟩; rw [hd.out])
  have qa := (Q.refl W1).alloc (.cells #[.int .i64 (a : Int), .int .i64 c.V[a]] 113)
  have HSa := Lib.hid (HS.out.more qa)
  have HOa := Lib.hid (HO.out.more qa)
  have Hs := Lib.hid (src2 W1 (.int .i64 (a : Int)) (.int .i64 c.V[a]) 113)
  clear qa
  have hBW := HS.out.tb.lt
  have hwW := HS.out.ib.lt
  go_region_law (refine step_append_fits rfl (.tmp 19) (.tmp 27) _ rfl (w.heap.size + 2) 113 j1 2 Tryz.underlying27 Hi2.out Hz2.out g2 c.N.length (c.N.length + 1) (cellsP c.N) rfl HOa.out.n ⟨W1.heap.size, 0, none⟩ 1 1 [.int .i64 (a : Int), .int .i64 c.V[a]] rfl rfl Hs.out (by simp [Value.oneCell']) (by omega) ?_; intro w2 own2 hgr0; have hgr : World.grownBy (W1.alloc (.cells #[.int .i64 (a : Int), .int .i64 c.V[a]] 113)) w2 (some g2) := ⟨hgr0.os, hgr0.tape, hgr0.output, hgr0.size, hgr0.block⟩; clear hgr0; have hS2 := HSa.out.grown hgr (by omega) (by omega); have HG2 := Lib.hid hgr; have Own2 := Lib.hid own2; have HS2 := Lib.hid hS2; have y0 := hS2.tb.c0; have y1 := hS2.tb.c1; have y2 := hS2.tb.c2; have yf := hS2.tb.f1; clear hS2 own2 hgr)
  all_goals
    clear y0 y1 y2 yf t0 t1 t2 tf0 tf1 tf2
    have HS3 := Lib.hid (HS2.out.set1 (.slice (some ⟨g2, 0, none⟩) (c.N.length + 1) (c.N.length + 1)))
    have HV3 := Lib.hid (row_far (row_far HOa.out.v HG2.out (by omega)) (setCell_grown w2 B 1 (.slice (some ⟨g2, 0, none⟩) (c.N.length + 1) (c.N.length + 1))) (by omega))
    have HM3 := Lib.hid (row_far (row_far HOa.out.m HG2.out (by omega)) (setCell_grown w2 B 1 (.slice (some ⟨g2, 0, none⟩) (c.N.length + 1) (c.N.length + 1))) (by omega))
    have HN3 := Lib.hid (row_far Own2.out (setCell_grown w2 B 1 (.slice (some ⟨g2, 0, none⟩) (c.N.length + 1) (c.N.length + 1))) (by omega))
    clear HS2 HG2 Own2
    generalize w2.setCell ⟨B, 1, none⟩ (.slice (some ⟨g2, 0, none⟩) (c.N.length + 1) (c.N.length + 1)) = W3 at *
    have HC3 := (OwnC.of_row HV3.out)
    have oc := (HC3.2 a _ (cellsI_at ha)).1
    have of := (HC3.2 a _ (cellsI_at ha)).2
    have HO4 : Hid (OwnC (W3.setCell ⟨g1, a, none⟩ (.int .i64 x)) g1 (cellsI (c.V.set a x))) := by have := HC3.set (s := a) (by rw [cellsI_len]; exact ha) (.int .i64 x); rw [← cellsI_set] at this; exact this
    clear HC3
    have HS4 := Lib.hid (HS3.out.grown (setCell_grown W3 g1 a (.int .i64 x)) (by omega) (by omega))
    have HN4 := Lib.hid ((OwnC.of_row HN3.out).far (b := g1) (i := a) (by omega) (.int .i64 x))
    have HM4 := Lib.hid ((OwnC.of_row HM3.out).far (b := g1) (i := a) (by omega) (.int .i64 x))
    have t0 := HS3.out.tb.c0
    have tf0 := HS3.out.tb.f0
    have t1 := HS3.out.tb.c1
    have tf1 := HS3.out.tb.f1
    have t2 := HS3.out.tb.c2
    have tf2 := HS3.out.tb.f2
    have y0 := HS4.out.tb.c0
    have yg0 := HS4.out.tb.f0
    have y1 := HS4.out.tb.c1
    have yg1 := HS4.out.tb.f1
    have y2 := HS4.out.tb.c2
    have yg2 := HS4.out.tb.f2
    have r0 := HS4.out.rb.c0
    have r1 := HS4.out.rb.c1
    have r2 := HS4.out.rb.c2
    have f0 := HS4.out.rb.f0
    have f1 := HS4.out.rb.f1
    have f2 := HS4.out.rb.f2
    have bz := HS4.out.rb.all (.slice (some ⟨g1, 0, none⟩) c.V.length (c.V.length + 1)) (.slice (some ⟨g2, 0, none⟩) (c.N.length + 1) (c.N.length + 1)) (.slice (some ⟨g3, 0, none⟩) c.M.length (c.M.length + 1))
    have v0 := bz.c0
    have v1 := bz.c1
    have v2 := bz.c2
    clear bz
    go_wp2_with fail
    have O4 : Out w (W3.setCell ⟨g1, a, none⟩ (.int .i64 x)) (setC c a x) g1 (c.V.length + 1) g2 (c.N.length + 1) g3 (c.M.length + 1) :=
      ⟨HO4.out, by have := HN4.out; rwa [← show cellsP (setC c a x).N = cellsP c.N ++ [Value.int .i64 (a : Int), Value.int .i64 c.V[a]] by show cellsP (c.N ++ [((a : Int), c.V.getD a 0)]) = _; rw [cellsP_append, Hga.out]; rfl] at this, HM4.out, by simp [setC], by simp [setC], Nat.le_succ _, by omega, by omega, by omega, by omega, by omega, by omega, HS4.out.q⟩
    refine bodyPost_ret (v := .tuple #[.agg #[.slice (some ⟨g1, 0, none⟩) c.V.length (c.V.length + 1), .slice (some ⟨g2, 0, none⟩) (c.N.length + 1) (c.N.length + 1), .slice (some ⟨g3, 0, none⟩) c.M.length (c.M.length + 1)], .int .i64 0]) (by simp [results, Tryz.f88, go_sem, v0, v1, v2]) rfl ⟨g1, c.V.length + 1, g2, c.N.length + 1, g3, c.M.length + 1, by simp [setC], ?_⟩
    exact out_end O4 (by omega) (by omega) (by omega) _ _ _
end Go.Proofs.YtjmopbimleoidaaGreat.Tr

namespace Go.Proofs.YtjmopbimleoidaaGreat.Tr
open Go.RowKit Kit

end Go.Proofs.YtjmopbimleoidaaGreat.Tr

namespace Go.Proofs.YtjmopbimleoidaaGreat.Tr
open Go.RowKit Kit

end Go.Proofs.YtjmopbimleoidaaGreat.Tr

namespace Go.Proofs.YtjmopbimleoidaaGreat.Tr
open Go.RowKit Kit

end Go.Proofs.YtjmopbimleoidaaGreat.Tr

namespace Go.Proofs.YtjmopbimleoidaaGreat.Tr
open Go.RowKit Kit

end Go.Proofs.YtjmopbimleoidaaGreat.Tr
