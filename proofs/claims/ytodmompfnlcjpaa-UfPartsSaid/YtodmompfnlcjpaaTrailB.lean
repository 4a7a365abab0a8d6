/-
  Boxes of cells; contract of copyOf: all three rows copied, each in a block of its own.
-/
import Derived.Test.YtodmompfnlcjpaaTrailA
import Derived.Deep.RegionHeld3
namespace Go.Proofs.Ytodmompfnlcjpaa.Tr
open Go.RowKit Kit

/-- a box of three cells -/
structure Box3 (W : World) (B : Nat) (a b c : Value) : Prop where
  c0 : W.cell? ⟨B, 0, none⟩ = some a
  c1 : W.cell? ⟨B, 1, none⟩ = some b
  c2 : W.cell? ⟨B, 2, none⟩ = some c
  f0 : W.frozen? ⟨B, 0, none⟩ = false
  f1 : W.frozen? ⟨B, 1, none⟩ = false
  f2 : W.frozen? ⟨B, 2, none⟩ = false
  lt : B < W.heap.size
theorem Box3.three {W : World} {B : Nat} {a b c : Value} (h : Box3 W B a b c) : W.cell? ⟨B, 0, none⟩ = some a ∧ W.cell? ⟨B, 1, none⟩ = some b ∧ W.cell? ⟨B, 2, none⟩ = some c := ⟨h.c0, h.c1, h.c2⟩
theorem Box3.keep {W W' : World} {B : Nat} {a b c : Value} (h : Box3 W B a b c) (hb : W'.heap[B]? = W.heap[B]?) (hs : W.heap.size ≤ W'.heap.size) : Box3 W' B a b c :=
  ⟨(World.cell?_of_block (a := ⟨B, 0, none⟩) hb).trans h.c0, (World.cell?_of_block (a := ⟨B, 1, none⟩) hb).trans h.c1, (World.cell?_of_block (a := ⟨B, 2, none⟩) hb).trans h.c2,
    (World.frozen?_of_block (a := ⟨B, 0, none⟩) hb).trans h.f0, (World.frozen?_of_block (a := ⟨B, 1, none⟩) hb).trans h.f1, (World.frozen?_of_block (a := ⟨B, 2, none⟩) hb).trans h.f2, Nat.lt_of_lt_of_le h.lt hs⟩
theorem Box3.q {W W' : World} {B : Nat} {a b c : Value} (h : Box3 W B a b c) (q : Q W W') : Box3 W' B a b c := h.keep (q.block B h.lt) q.size
theorem Box3.grown {W W' : World} {B g : Nat} {a b c : Value} (h : Box3 W B a b c) (hg : W.grownBy W' (some g)) (hne : g ≠ B) : Box3 W' B a b c := h.keep (hg.block B h.lt (fun e => hne (by injection e with e; exact e.symm))) hg.size
theorem Box3.new (w : World) (a b c : Value) (t : TypeId) : Box3 (w.alloc (.cells #[a, b, c] t)) w.heap.size a b c := ⟨by simp, by simp, by simp, by simp, by simp, by simp, by simp⟩
theorem Box3.far {W : World} {B : Nat} {a b c : Value} (h : Box3 W B a b c) {g i : Nat} (hg : g ≠ B) (v : Value) : Box3 (W.setCell ⟨g, i, none⟩ v) B a b c := h.grown (setCell_grown W g i v) hg
theorem Box3.set0 {W : World} {B : Nat} {a b c : Value} (h : Box3 W B a b c) (v : Value) : Box3 (W.setCell ⟨B, 0, none⟩ v) B v b c :=
  ⟨setCell_eq h.c0, setCell_ne (by omega) h.c1, setCell_ne (by omega) h.c2, by rw [World.frozen?_setCell]; exact h.f0, by rw [World.frozen?_setCell]; exact h.f1, by rw [World.frozen?_setCell]; exact h.f2, by simpa [World.setCell] using h.lt⟩
theorem Box3.set1 {W : World} {B : Nat} {a b c : Value} (h : Box3 W B a b c) (v : Value) : Box3 (W.setCell ⟨B, 1, none⟩ v) B a v c :=
  ⟨setCell_ne (by omega) h.c0, setCell_eq h.c1, setCell_ne (by omega) h.c2, by rw [World.frozen?_setCell]; exact h.f0, by rw [World.frozen?_setCell]; exact h.f1, by rw [World.frozen?_setCell]; exact h.f2, by simpa [World.setCell] using h.lt⟩
theorem Box3.set2 {W : World} {B : Nat} {a b c : Value} (h : Box3 W B a b c) (v : Value) : Box3 (W.setCell ⟨B, 2, none⟩ v) B a b v :=
  ⟨setCell_ne (by omega) h.c0, setCell_ne (by omega) h.c1, setCell_eq h.c2, by rw [World.frozen?_setCell]; exact h.f0, by rw [World.frozen?_setCell]; exact h.f1, by rw [World.frozen?_setCell]; exact h.f2, by simpa [World.setCell] using h.lt⟩
theorem Box3.all {W : World} {B : Nat} {a b c : Value} (h : Box3 W B a b c) (x y z : Value) : Box3 (((W.setCell ⟨B, 0, none⟩ x).setCell ⟨B, 1, none⟩ y).setCell ⟨B, 2, none⟩ z) B x y z := ((h.set0 x).set1 y).set2 z
/-- what three stores into a box do to the rest -/
theorem set3_grown (W : World) (B : Nat) (x y z : Value) : W.grownBy (((W.setCell ⟨B, 0, none⟩ x).setCell ⟨B, 1, none⟩ y).setCell ⟨B, 2, none⟩ z) (some B) :=
  grown_trans (grown_trans (setCell_grown W B 0 x) (setCell_grown _ B 1 y)) (setCell_grown _ B 2 z)

/-- the value of cells, in memory -/
structure Rd (w : World) (c : Cells) (A : Option Addr) (k1 : Nat) (D : Option Addr) (k2 : Nat) (E : Option Addr) (k3 : Nat) : Prop where
  v : Rds w w.heap.size A (cellsI c.V)
  n : Rds w w.heap.size D (cellsP c.N)
  m : Rds w w.heap.size E (cellsI c.M)
  lv : c.V.length ≤ k1
  ln : c.N.length ≤ k2
  lm : c.M.length ≤ k3
theorem Rd.q {w w' : World} {c : Cells} {A : Option Addr} {k1 : Nat} {D : Option Addr} {k2 : Nat} {E : Option Addr} {k3 : Nat} (h : Rd w c A k1 D k2 E k3) (q : Q w w') : Rd w' c A k1 D k2 E k3 :=
  ⟨h.v.q q, h.n.q q, h.m.q q, h.lv, h.ln, h.lm⟩
/-- cells are few -/
def Few (c : Cells) (m : Nat) : Prop := c.V.length ≤ m ∧ c.N.length ≤ m ∧ c.M.length ≤ m

/-- what a call answers: cells in three blocks of its own -/
structure Out (w w' : World) (c : Cells) (g1 k1 g2 k2 g3 k3 : Nat) : Prop where
  v : OwnC w' g1 (cellsI c.V)
  n : OwnC w' g2 (cellsP c.N)
  m : OwnC w' g3 (cellsI c.M)
  lv : c.V.length ≤ k1
  ln : c.N.length ≤ k2
  lm : c.M.length ≤ k3
  o1 : w.heap.size ≤ g1
  o2 : w.heap.size ≤ g2
  o3 : w.heap.size ≤ g3
  d12 : g1 ≠ g2
  d13 : g1 ≠ g3
  d23 : g2 ≠ g3
  q : Q w w'
theorem Out.rd {w w' : World} {c : Cells} {g1 k1 g2 k2 g3 k3 : Nat} (h : Out w w' c g1 k1 g2 k2 g3 k3) : Rd w' c (some ⟨g1, 0, none⟩) k1 (some ⟨g2, 0, none⟩) k2 (some ⟨g3, 0, none⟩) k3 := ⟨h.v.rds, h.n.rds, h.m.rds, h.lv, h.ln, h.lm⟩
theorem Out.from {w0 w w' : World} {c : Cells} {g1 k1 g2 k2 g3 k3 : Nat} (h : Out w w' c g1 k1 g2 k2 g3 k3) (q : Q w0 w) : Out w0 w' c g1 k1 g2 k2 g3 k3 :=
  ⟨h.v, h.n, h.m, h.lv, h.ln, h.lm, Nat.le_trans q.size h.o1, Nat.le_trans q.size h.o2, Nat.le_trans q.size h.o3, h.d12, h.d13, h.d23, q.trans h.q⟩
theorem Out.more {w w' w'' : World} {c : Cells} {g1 k1 g2 k2 g3 k3 : Nat} (h : Out w w' c g1 k1 g2 k2 g3 k3) (q : Q w' w'') : Out w w'' c g1 k1 g2 k2 g3 k3 :=
  ⟨h.v.q q, h.n.q q, h.m.q q, h.lv, h.ln, h.lm, h.o1, h.o2, h.o3, h.d12, h.d13, h.d23, h.q.trans q⟩
/-- stores into a box that is none of the three -/
theorem Out.far {w w' w'' : World} {c : Cells} {g1 k1 g2 k2 g3 k3 B : Nat} (h : Out w w' c g1 k1 g2 k2 g3 k3) (hg : w'.grownBy w'' (some B)) (hB : w.heap.size ≤ B) (h1 : B ≠ g1) (h2 : B ≠ g2) (h3 : B ≠ g3) : Out w w'' c g1 k1 g2 k2 g3 k3 :=
  ⟨h.v.grown hg (by simpa using h1), h.n.grown hg (by simpa using h2), h.m.grown hg (by simpa using h3), h.lv, h.ln, h.lm, h.o1, h.o2, h.o3, h.d12, h.d13, h.d23, grown_q hg h.q hB⟩

/-- what copyOf answers -/
structure Cop (w w' : World) (c : Cells) (g1 g2 g3 : Nat) : Prop where
  v : w'.ownsRow w.heap.size 3 1 (.slice (some ⟨g1, 0, none⟩) c.V.length (c.V.length + 1)) c.V.length (cellsI c.V)
  n : w'.ownsRow w.heap.size 64 2 (.slice (some ⟨g2, 0, none⟩) c.N.length (c.N.length + 1)) c.N.length (cellsP c.N)
  m : w'.ownsRow w.heap.size 3 1 (.slice (some ⟨g3, 0, none⟩) c.M.length (c.M.length + 1)) c.M.length (cellsI c.M)
  d12 : g1 < g2
  d23 : g2 < g3
  lo : w.heap.size + 2 ≤ g1
  q : Q w w'
theorem Cop.out {w w' : World} {c : Cells} {g1 g2 g3 : Nat} (h : Cop w w' c g1 g2 g3) : Out w w' c g1 (c.V.length + 1) g2 (c.N.length + 1) g3 (c.M.length + 1) := by
  have := h.d12
  have := h.d23
  have := h.lo
  exact ⟨.of_row h.v, .of_row h.n, .of_row h.m, Nat.le_succ _, Nat.le_succ _, Nat.le_succ _, by omega, by omega, by omega, by omega, by omega, by omega, h.q⟩
def CopyOf (c : Cells) (w : World) (e : Ending) (w' : World) : Prop :=
  ∃ g1 g2 g3, e = .returned (.agg #[.slice (some ⟨g1, 0, none⟩) c.V.length (c.V.length + 1), .slice (some ⟨g2, 0, none⟩) c.N.length (c.N.length + 1), .slice (some ⟨g3, 0, none⟩) c.M.length (c.M.length + 1)]) ∧ Cop w w' c g1 g2 g3
theorem row_kept {w w' : World} {base base' : Nat} {e : TypeId} {size : Nat} {v : Value} {n : Nat} {xs : List Value} (h : w.ownsRow base e size v n xs) (q : Q w w') (hb : base' ≤ base) : w'.ownsRow base' e size v n xs := by
  have h2 := h.kept (row := none) (grows_q q none) (by cases v.ownBlock <;> simp)
  obtain ⟨a, b⟩ := h2
  refine ⟨a, ?_⟩
  rcases b with b | ⟨g, cap, cur, r1, r2, r⟩
  · exact .inl b
  · exact .inr ⟨g, cap, cur, r1, Nat.le_trans hb r2, r⟩
theorem row_far {w w' : World} {base : Nat} {e : TypeId} {size g n cap B : Nat} {xs : List Value} (h : w.ownsRow base e size (.slice (some ⟨g, 0, none⟩) n cap) n xs) (hg : w.grownBy w' (some B)) (hne : B ≠ g) : w'.ownsRow base e size (.slice (some ⟨g, 0, none⟩) n cap) n xs :=
  h.kept hg (.inr (by simp [Value.ownBlock]; exact fun e => hne e.symm))

set_option maxRecDepth 100000 in
set_option maxHeartbeats 2000000 in
theorem copyOf_any (c : Cells) (A D E : Option Addr) (n1 k1 n2 k2 n3 k3 : Nat) (w : World) (h1 : n1 = c.V.length) (h2 : n2 = c.N.length) (h3 : n3 = c.M.length) (h : Rd w c A k1 D k2 E k3) (hf : Few c 1000000) :
    Calls Try.prog 37 #[.agg #[.slice A n1 k1, .slice D n2 k2, .slice E n3 k3]] w (CopyOf c w) := by
  subst h1 h2 h3
  obtain ⟨f1, f2, f3⟩ := hf
  have q0 := ((Q.refl w).alloc (Obj.cells #[Value.slice A c.V.length k1, Value.slice D c.N.length k2, Value.slice E c.M.length k3] 25)).alloc (Obj.cells #[Value.slice none 0 0, Value.slice none 0 0, Value.slice none 0 0] 25)
  have HB := Lib.hid ((Box3.new w (Value.slice A c.V.length k1) (Value.slice D c.N.length k2) (Value.slice E c.M.length k3) 25).q ((Q.refl _).alloc (Obj.cells #[Value.slice none 0 0, Value.slice none 0 0, Value.slice none 0 0] 25)))
  have X := Box3.new (w.alloc (Obj.cells #[Value.slice A c.V.length k1, Value.slice D c.N.length k2, Value.slice E c.M.length k3] 25)) (Value.slice none 0 0) (Value.slice none 0 0) (Value.slice none 0 0) 25
  rw [World.size_alloc] at X
  have HX := Lib.hid X
  have HR := Lib.hid (h.q q0)
  clear h X
  go_enter Try.func37, Try.ntmps37
  go_upto_region 1 with fail
  have hz0 : ((w.alloc (Obj.cells #[Value.slice A c.V.length k1, Value.slice D c.N.length k2, Value.slice E c.M.length k3] 25)).alloc (Obj.cells #[Value.slice none 0 0, Value.slice none 0 0, Value.slice none 0 0] 25)).heap.size = w.heap.size + 2 := by simp
  generalize (w.alloc (Obj.cells #[Value.slice A c.V.length k1, Value.slice D c.N.length k2, Value.slice E c.M.length k3] 25)).alloc (Obj.cells #[Value.slice none 0 0, Value.slice none 0 0, Value.slice none 0 0] 25) = W0 at *
  have HZ := Lib.hid hz0
  clear hz0
  have HV : Hid (∀ W, Q W0 W → Calls Try.prog 48 #[.slice A c.V.length k1] W (CopyRow 3 1 c.V.length (cellsI c.V) W)) := fun W q => copyI_any A _ k1 c.V W rfl (HR.out.v.q q) f1
  have HN : Hid (∀ W, Q W0 W → Calls Try.prog 49 #[.slice D c.N.length k2] W (CopyRow 64 2 c.N.length (cellsP c.N) W)) := fun W q => copyP_any D _ k2 c.N W rfl (HR.out.n.q q) f2
  have HM : Hid (∀ W, Q W0 W → Calls Try.prog 48 #[.slice E c.M.length k3] W (CopyRow 3 1 c.M.length (cellsI c.M) W)) := fun W q => copyI_any E _ k3 c.M W rfl (HR.out.m.q q) f3
  have c0 := HB.out.c0
  have c1 := HB.out.c1
  have c2 := HB.out.c2
  have hlt0 := HB.out.lt
  go_region_held3 (fun w' => w'.cell? ⟨w.heap.size, 0, none⟩ = some (.slice A c.V.length k1) ∧ w'.cell? ⟨w.heap.size, 1, none⟩ = some (.slice D c.N.length k2) ∧ w'.cell? ⟨w.heap.size, 2, none⟩ = some (.slice E c.M.length k3))
    (first
      | go_keep
      | exact ⟨(p3.cell (p := ⟨w.heap.size, 0, none⟩) hlt0).trans c0, (p3.cell (p := ⟨w.heap.size, 1, none⟩) hlt0).trans c1, (p3.cell (p := ⟨w.heap.size, 2, none⟩) hlt0).trans c2⟩
      | exact ⟨(p2.cell (p := ⟨w.heap.size, 0, none⟩) hlt0).trans c0, (p2.cell (p := ⟨w.heap.size, 1, none⟩) hlt0).trans c1, (p2.cell (p := ⟨w.heap.size, 2, none⟩) hlt0).trans c2⟩
      | exact ⟨(p1.cell (p := ⟨w.heap.size, 0, none⟩) hlt0).trans c0, (p1.cell (p := ⟨w.heap.size, 1, none⟩) hlt0).trans c1, (p1.cell (p := ⟨w.heap.size, 2, none⟩) hlt0).trans c2⟩
      | exact (((HB.out.q p3).far (g := w.heap.size + 1) (by omega) _).far (g := w.heap.size + 1) (by omega) _).far (g := w.heap.size + 1) (by omega) _ |>.three)
    (first
      | (go_at_call 48; (with_reducible refine (HV.out _ (Q.refl W0).drew).mono ?_); rintro e w1 ⟨g1, rfl, own1, q1⟩; have Own1 := Lib.hid own1; clear own1; have p1 : Q W0 w1 := (Q.refl W0).drew.trans q1)
      | (go_at_call 49; (with_reducible refine (HN.out _ p1).mono ?_); rintro e w2 ⟨g2, rfl, own2, q2⟩; have Own2 := Lib.hid own2; clear own2; have p2 : Q W0 w2 := p1.trans q2)
      | (go_at_call 48; (with_reducible refine (HM.out _ p2).mono ?_); rintro e w3 ⟨g3, rfl, own3, q3⟩; have Own3 := Lib.hid own3; clear own3; have p3 : Q W0 w3 := p2.trans q3; have bx := HX.out.q p3; have y0 := bx.c0; have y1 := bx.c1; have y2 := bx.c2; have z0 := bx.f0; have z1 := bx.f1; have z2 := bx.f2))
  clear y0 y1 y2 z0 z1 z2 c0 c1 c2
  have bz := bx.all (.slice (some ⟨g1, 0, none⟩) c.V.length (c.V.length + 1)) (.slice (some ⟨g2, 0, none⟩) c.N.length (c.N.length + 1)) (.slice (some ⟨g3, 0, none⟩) c.M.length (c.M.length + 1))
  have y0 := bz.c0
  have y1 := bz.c1
  have y2 := bz.c2
  have hgr := Lib.hid (set3_grown w3 (w.heap.size + 1) (.slice (some ⟨g1, 0, none⟩) c.V.length (c.V.length + 1)) (.slice (some ⟨g2, 0, none⟩) c.N.length (c.N.length + 1)) (.slice (some ⟨g3, 0, none⟩) c.M.length (c.M.length + 1)))
  have e1 := (Own1.out.lt g1 rfl).1
  have e1' := (Own1.out.lt g1 rfl).2
  have e2 := (Own2.out.lt g2 rfl).1
  have e2' := (Own2.out.lt g2 rfl).2
  have e3 := (Own3.out.lt g3 rfl).1
  have hz := HZ.out
  have e0 : W0.heap.size ≤ g1 := e1
  go_wp2_with fail
  refine bodyPost_ret (v := .agg #[.slice (some ⟨g1, 0, none⟩) c.V.length (c.V.length + 1), .slice (some ⟨g2, 0, none⟩) c.N.length (c.N.length + 1), .slice (some ⟨g3, 0, none⟩) c.M.length (c.M.length + 1)]) (by simp [results, Try.f37, go_sem, y0, y1, y2]) rfl ⟨g1, g2, g3, rfl, ?_⟩
  exact ⟨row_far (row_kept (row_kept Own1.out q2 (by show w.heap.size ≤ W0.heap.size; omega)) q3 (Nat.le_refl _)) hgr.out (by omega), row_far (row_kept Own2.out q3 (by have := q1.size; have : W0.heap.size ≤ w1.heap.size := this; omega)) hgr.out (by have := q1.size; have : W0.heap.size ≤ w1.heap.size := this; omega),
    row_far (row_kept Own3.out (Q.refl _) (by have := p2.size; omega)) hgr.out (by have := p2.size; omega), by omega, by omega, by omega, grown_q hgr.out (q0.trans p3) (by omega)⟩
end Go.Proofs.Ytodmompfnlcjpaa.Tr
