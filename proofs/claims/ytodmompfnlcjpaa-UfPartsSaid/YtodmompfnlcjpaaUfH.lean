/-
  Contracts: Add, Join.
-/
import Derived.Test.YtodmompfnlcjpaaUfG
import Derived.Test.YtodmompfnlcjpaaTrailS
import Derived.Test.YtodmompfnlcjpaaTrailG
import Derived.Laws.EntriesVeiled
namespace Go.Proofs.Ytodmompfnlcjpaa.Uf
open Go.RowKit Kit Tr

set_option maxRecDepth 100000 in
set_option maxHeartbeats 1000000 in
theorem add_any (c : Cells) (A D E : Option Addr) (n1 k1 n2 k2 n3 k3 : Nat) (w : World) (h1 : n1 = c.V.length) (h2 : n2 = c.N.length) (h3 : n3 = c.M.length) (h : Rd w c A k1 D k2 E k3) (hf : Few c 1000000) :
    Calls Try.prog 18 #[.agg #[.slice A n1 k1, .slice D n2 k2, .slice E n3 k3]] w (OPost (growC c (c.V.length : Int)) w) := by
  subst h1 h2 h3
  obtain ⟨W0, hW0, q0, hz0, hB, hX⟩ := boxes w (Value.slice A c.V.length k1) (Value.slice D c.N.length k2) (Value.slice E c.M.length k3) 25
  have HB := Lib.hid hB
  have HX := Lib.hid hX
  have HR := Lib.hid (h.q q0)
  have HZ := Lib.hid hz0
  have HW := Lib.hid hW0
  clear h hB hX hz0 hW0
  go_enter Try.func18, Try.ntmps18
  go_upto_region 1 with fail
  rw [← HW.out]
  clear HW
  have C := Lib.hid (grow_any c (c.V.length : Int) A D E _ k1 _ k2 _ k3 W0 rfl rfl rfl HR.out hf)
  have c0 := HB.out.c0
  have c1 := HB.out.c1
  have c2 := HB.out.c2
  go_wp2_with (go_at_call 36; refine C.out.mono ?_; rintro e w1 ⟨g1, l1, g2, l2, g3, l3, rfl, hO⟩; have HO := Lib.hid hO; have bx := HX.out.q hO.q; have x0 := bx.c0; have x1 := bx.c1; have x2 := bx.c2; have u0 := bx.f0; have u1 := bx.f1; have u2 := bx.f2; clear hO)
  have bz := bx.all (.slice (some ⟨g1, 0, none⟩) (growC c (c.V.length : Int)).V.length l1) (.slice (some ⟨g2, 0, none⟩) (growC c (c.V.length : Int)).N.length l2) (.slice (some ⟨g3, 0, none⟩) (growC c (c.V.length : Int)).M.length l3)
  have y0 := bz.c0
  have y1 := bz.c1
  have y2 := bz.c2
  have hz := HZ.out
  have o1 := HO.out.o1
  have o2 := HO.out.o2
  have o3 := HO.out.o3
  have O4 := out_end (HO.out.from q0) (by omega) (by omega) (by omega) (.slice (some ⟨g1, 0, none⟩) (growC c (c.V.length : Int)).V.length l1) (.slice (some ⟨g2, 0, none⟩) (growC c (c.V.length : Int)).N.length l2) (.slice (some ⟨g3, 0, none⟩) (growC c (c.V.length : Int)).M.length l3)
  exact bodyPost_ret (v := .agg #[.slice (some ⟨g1, 0, none⟩) (growC c (c.V.length : Int)).V.length l1, .slice (some ⟨g2, 0, none⟩) (growC c (c.V.length : Int)).N.length l2, .slice (some ⟨g3, 0, none⟩) (growC c (c.V.length : Int)).M.length l3]) (by simp [results, Try.f18, go_sem, y0, y1, y2]) rfl ⟨_, l1, _, l2, _, l3, rfl, OutO.of O4⟩

/-- two classes, joined -/
def joinC (R : List Int) (c : Cells) (a b : Nat) : Cells :=
  if fst c.V a = fst c.V b then c else if lessB R (fst c.V b) (fst c.V a) = true then setC c (fst c.V a) (fst c.V b : Int) else setC c (fst c.V b) (fst c.V a : Int)

set_option maxRecDepth 100000 in
set_option maxHeartbeats 2000000 in
theorem join_same (R : List Int) (c : Cells) (a b x y : Nat) (A D E F : Option Addr) (n1 k1 n2 k2 n3 k3 n4 k4 : Nat) (w : World) (h1 : n1 = c.V.length) (h2 : n2 = c.N.length) (h3 : n3 = c.M.length) (h4 : n4 = R.length) (h : Rd w c A k1 D k2 E k3) (hR : Rds w w.heap.size F (cellsI R)) (hf : Few c 1000000) (hC : Cl R c.V) (ha : a < c.V.length) (hb : b < c.V.length) (hx : fst c.V a = x) (hy : fst c.V b = y) (hl : lessB R y x = false) (he : x = y) :
    Calls Try.prog 12 #[.agg #[.slice A n1 k1, .slice D n2 k2, .slice E n3 k3], .slice F n4 k4, .int .i64 (a : Int), .int .i64 (b : Int)] w (OPost c w) := by
  subst h1 h2 h3 h4
  obtain ⟨W0, hW0, q0, hz0, hB, hX⟩ := boxes w (Value.slice A c.V.length k1) (Value.slice D c.N.length k2) (Value.slice E c.M.length k3) 25
  have HB := Lib.hid hB
  have HX := Lib.hid hX
  have HR := Lib.hid (h.q q0)
  have HRk := Lib.hid (hR.q q0)
  have HZ := Lib.hid hz0
  have HW := Lib.hid hW0
  have Hf := Lib.hid hf
  have hxl : x < c.V.length := by rw [← hx]; exact (hC.fst_in a ha).1
  have hyl : y < c.V.length := by rw [← hy]; exact (hC.fst_in b hb).1
  have Ha : Hid (∀ W, Q W0 W → Calls Try.prog 14 #[.agg #[.slice A c.V.length k1, .slice D c.N.length k2, .slice E c.M.length k3], .int .i64 (a : Int)] W fun e W' => e = .returned (.int .i64 (x : Int)) ∧ Q W W') := fun W q => by have := find_any R c a A D E _ k1 _ k2 _ k3 W rfl rfl rfl (HR.out.q q) hC ha hf.1; rwa [hx] at this
  have Hb : Hid (∀ W, Q W0 W → Calls Try.prog 14 #[.agg #[.slice A c.V.length k1, .slice D c.N.length k2, .slice E c.M.length k3], .int .i64 (b : Int)] W fun e W' => e = .returned (.int .i64 (y : Int)) ∧ Q W W') := fun W q => by have := find_any R c b A D E _ k1 _ k2 _ k3 W rfl rfl rfl (HR.out.q q) hC hb hf.1; rwa [hy] at this
  have HL : Hid (∀ W, Q W0 W → Calls Try.prog 15 #[.slice F R.length k4, .int .i64 (y : Int), .int .i64 (x : Int)] W fun e W' => e = .returned (.bool (lessB R y x)) ∧ Q W W') := fun W q => less_any R F _ k4 y x W rfl (HRk.out.q q)
  clear h hR hB hX hz0 hW0 hx hy ha hb hC hf
  go_enter Try.func12, Try.ntmps12
  go_upto_region 1 with fail
  rw [← HW.out]
  clear HW
  have c0 := HB.out.c0
  have c1 := HB.out.c1
  have c2 := HB.out.c2
  have hlt0 := HB.out.lt
  go_region_held3 (fun w' => w'.cell? ⟨w.heap.size, 0, none⟩ = some (.slice A c.V.length k1) ∧ w'.cell? ⟨w.heap.size, 1, none⟩ = some (.slice D c.N.length k2) ∧ w'.cell? ⟨w.heap.size, 2, none⟩ = some (.slice E c.M.length k3))
    (first
      | go_keep
      | exact ⟨(p2.cell (p := ⟨w.heap.size, 0, none⟩) hlt0).trans c0, (p2.cell (p := ⟨w.heap.size, 1, none⟩) hlt0).trans c1, (p2.cell (p := ⟨w.heap.size, 2, none⟩) hlt0).trans c2⟩
      | exact ⟨(p1.cell (p := ⟨w.heap.size, 0, none⟩) hlt0).trans c0, (p1.cell (p := ⟨w.heap.size, 1, none⟩) hlt0).trans c1, (p1.cell (p := ⟨w.heap.size, 2, none⟩) hlt0).trans c2⟩)
    (first
      | (go_at_call 14; (with_reducible refine (Ha.out _ (Q.refl W0).drew).mono ?_); rintro e w1 ⟨rfl, q1⟩; have p1 : Q W0 w1 := (Q.refl W0).drew.trans q1)
      | (go_at_call 14; (with_reducible refine (Hb.out _ p1).mono ?_); rintro e w2 ⟨rfl, q2⟩; have p2 : Q W0 w2 := p1.trans q2))
  clear c0 c1 c2 q1 q2 p1
  have c0 := (HB.out.q p2).c0
  have c1 := (HB.out.q p2).c1
  have c2 := (HB.out.q p2).c2
  have HL2 := Lib.hid (HL.out w2 p2)
  have Hp2 := Lib.hid p2
  clear HL p2 Ha Hb
  have HLB := Lib.hid hl
  subst he
  clear hl
  rw [HLB.out] at HL2
  go_wp2_with (first
    | (go_at_call 15; refine HL2.out.mono ?_; rintro e w3 ⟨rfl, q3⟩; have HB3 := Lib.hid ((HB.out.q Hp2.out).q q3); have HR3 := Lib.hid ((HR.out.q Hp2.out).q q3); have HX3 := Lib.hid ((HX.out.q Hp2.out).q q3); have Hq3 := Lib.hid (Hp2.out.trans q3); clear q3; have c0 := HB3.out.c0; have c1 := HB3.out.c1; have c2 := HB3.out.c2)
    | (go_at_call 28; refine (copyU c A D E _ k1 _ k2 _ k3 w3 rfl rfl rfl HR3.out Hf.out).mono ?_; rintro e w5 ⟨A5, l1, D5, l2, E5, l3, rfl, hO⟩; have HO := Lib.hid hO; have bx := HX3.out.q hO.q; have x0 := bx.c0; have x1 := bx.c1; have x2 := bx.c2; have u0 := bx.f0; have u1 := bx.f1; have u2 := bx.f2; clear hO))
  have bz := bx.all (.slice A5 c.V.length l1) (.slice D5 c.N.length l2) (.slice E5 c.M.length l3)
  have y0 := bz.c0
  have y1 := bz.c1
  have y2 := bz.c2
  have hz := HZ.out
  have hz3 : W0.heap.size ≤ w3.heap.size := Hq3.out.size
  have hgr := set3_grown w5 (w.heap.size + 1) (.slice A5 c.V.length l1) (.slice D5 c.N.length l2) (.slice E5 c.M.length l3)
  exact bodyPost_ret (v := .agg #[.slice A5 c.V.length l1, .slice D5 c.N.length l2, .slice E5 c.M.length l3]) (by simp [results, Try.f12, go_sem, y0, y1, y2]) rfl ⟨_, l1, _, l2, _, l3, rfl, HO.out.far (q0.trans Hq3.out) hgr (by omega) (by omega)⟩

set_option maxRecDepth 100000 in
set_option maxHeartbeats 2000000 in
theorem join_swap (R : List Int) (c : Cells) (a b x y : Nat) (A D E F : Option Addr) (n1 k1 n2 k2 n3 k3 n4 k4 : Nat) (w : World) (h1 : n1 = c.V.length) (h2 : n2 = c.N.length) (h3 : n3 = c.M.length) (h4 : n4 = R.length) (h : Rd w c A k1 D k2 E k3) (hR : Rds w w.heap.size F (cellsI R)) (hf : Few c 1000000) (hC : Cl R c.V) (ha : a < c.V.length) (hb : b < c.V.length) (hx : fst c.V a = x) (hy : fst c.V b = y) (hl : lessB R y x = true) (he : x ≠ y) :
    Calls Try.prog 12 #[.agg #[.slice A n1 k1, .slice D n2 k2, .slice E n3 k3], .slice F n4 k4, .int .i64 (a : Int), .int .i64 (b : Int)] w (OPost (setC c x (y : Int)) w) := by
  subst h1 h2 h3 h4
  obtain ⟨W0, hW0, q0, hz0, hB, hX⟩ := boxes w (Value.slice A c.V.length k1) (Value.slice D c.N.length k2) (Value.slice E c.M.length k3) 25
  have HB := Lib.hid hB
  have HX := Lib.hid hX
  have HR := Lib.hid (h.q q0)
  have HRk := Lib.hid (hR.q q0)
  have HZ := Lib.hid hz0
  have HW := Lib.hid hW0
  have Hf := Lib.hid hf
  have hxl : x < c.V.length := by rw [← hx]; exact (hC.fst_in a ha).1
  have hyl : y < c.V.length := by rw [← hy]; exact (hC.fst_in b hb).1
  have Ha : Hid (∀ W, Q W0 W → Calls Try.prog 14 #[.agg #[.slice A c.V.length k1, .slice D c.N.length k2, .slice E c.M.length k3], .int .i64 (a : Int)] W fun e W' => e = .returned (.int .i64 (x : Int)) ∧ Q W W') := fun W q => by have := find_any R c a A D E _ k1 _ k2 _ k3 W rfl rfl rfl (HR.out.q q) hC ha hf.1; rwa [hx] at this
  have Hb : Hid (∀ W, Q W0 W → Calls Try.prog 14 #[.agg #[.slice A c.V.length k1, .slice D c.N.length k2, .slice E c.M.length k3], .int .i64 (b : Int)] W fun e W' => e = .returned (.int .i64 (y : Int)) ∧ Q W W') := fun W q => by have := find_any R c b A D E _ k1 _ k2 _ k3 W rfl rfl rfl (HR.out.q q) hC hb hf.1; rwa [hy] at this
  have HL : Hid (∀ W, Q W0 W → Calls Try.prog 15 #[.slice F R.length k4, .int .i64 (y : Int), .int .i64 (x : Int)] W fun e W' => e = .returned (.bool (lessB R y x)) ∧ Q W W') := fun W q => less_any R F _ k4 y x W rfl (HRk.out.q q)
  clear h hR hB hX hz0 hW0 hx hy ha hb hC hf
  go_enter Try.func12, Try.ntmps12
  go_upto_region 1 with fail
  rw [← HW.out]
  clear HW
  have c0 := HB.out.c0
  have c1 := HB.out.c1
  have c2 := HB.out.c2
  have hlt0 := HB.out.lt
  go_region_held3 (fun w' => w'.cell? ⟨w.heap.size, 0, none⟩ = some (.slice A c.V.length k1) ∧ w'.cell? ⟨w.heap.size, 1, none⟩ = some (.slice D c.N.length k2) ∧ w'.cell? ⟨w.heap.size, 2, none⟩ = some (.slice E c.M.length k3))
    (first
      | go_keep
      | exact ⟨(p2.cell (p := ⟨w.heap.size, 0, none⟩) hlt0).trans c0, (p2.cell (p := ⟨w.heap.size, 1, none⟩) hlt0).trans c1, (p2.cell (p := ⟨w.heap.size, 2, none⟩) hlt0).trans c2⟩
      | exact ⟨(p1.cell (p := ⟨w.heap.size, 0, none⟩) hlt0).trans c0, (p1.cell (p := ⟨w.heap.size, 1, none⟩) hlt0).trans c1, (p1.cell (p := ⟨w.heap.size, 2, none⟩) hlt0).trans c2⟩)
    (first
      | (go_at_call 14; (with_reducible refine (Ha.out _ (Q.refl W0).drew).mono ?_); rintro e w1 ⟨rfl, q1⟩; have p1 : Q W0 w1 := (Q.refl W0).drew.trans q1)
      | (go_at_call 14; (with_reducible refine (Hb.out _ p1).mono ?_); rintro e w2 ⟨rfl, q2⟩; have p2 : Q W0 w2 := p1.trans q2))
  clear c0 c1 c2 q1 q2 p1
  have c0 := (HB.out.q p2).c0
  have c1 := (HB.out.q p2).c1
  have c2 := (HB.out.q p2).c2
  have HL2 := Lib.hid (HL.out w2 p2)
  have Hp2 := Lib.hid p2
  clear HL p2 Ha Hb
  have HLB := Lib.hid hl
  have hdx : (decide (0 ≤ (x : Int)) && decide ((x : Int) < (c.V.length : Int))) = true := by rw [decide_eq_true (show (0 : Int) ≤ (x : Int) by omega), decide_eq_true (show (x : Int) < (c.V.length : Int) by omega)]; rfl
  have hdy : (decide (0 ≤ (y : Int)) && decide ((y : Int) < (c.V.length : Int))) = true := by rw [decide_eq_true (show (0 : Int) ≤ (y : Int) by omega), decide_eq_true (show (y : Int) < (c.V.length : Int) by omega)]; rfl
  have e1 : ((x : Int) == (y : Int)) = false := beq_eq_false_iff_ne.2 (by omega)
  have e2 : (x == y) = false := beq_eq_false_iff_ne.2 he
  have e3 : ((y : Int) == (x : Int)) = false := beq_eq_false_iff_ne.2 (by omega)
  have e4 : (y == x) = false := beq_eq_false_iff_ne.2 (fun e => he e.symm)
  clear hl he
  rw [HLB.out] at HL2
  go_wp2_with (first
    | (go_at_call 15; refine HL2.out.mono ?_; rintro e w3 ⟨rfl, q3⟩; have HB3 := Lib.hid ((HB.out.q Hp2.out).q q3); have HR3 := Lib.hid ((HR.out.q Hp2.out).q q3); have HX3 := Lib.hid ((HX.out.q Hp2.out).q q3); have Hq3 := Lib.hid (Hp2.out.trans q3); clear q3; have c0 := HB3.out.c0; have c1 := HB3.out.c1; have c2 := HB3.out.c2)
    | (go_at_call 27; refine (placeU _ _ _).mono ?_; rintro e w4 ⟨rfl, rfl⟩; first | rw [hdx] | rw [hdy])
    | (go_at_call 29; refine (set_some c x (y : Int) A D E _ k1 _ k2 _ k3 w3 rfl rfl rfl HR3.out Hf.out hxl).mono ?_; rintro e w5 ⟨g1, l1, g2, l2, g3, l3, rfl, hO⟩; have HO := Lib.hid hO; have qb := (Q.refl w5).alloc (Obj.cells #[(.slice (some ⟨g1, 0, none⟩) (setC c x (y : Int)).V.length l1), (.slice (some ⟨g2, 0, none⟩) (setC c x (y : Int)).N.length l2), (.slice (some ⟨g3, 0, none⟩) (setC c x (y : Int)).M.length l3)] 25); have bx := (HX3.out.q hO.q).q qb; have x0 := bx.c0; have x1 := bx.c1; have x2 := bx.c2; have u0 := bx.f0; have u1 := bx.f1; have u2 := bx.f2; clear hO))
  have bz := bx.all (.slice (some ⟨g1, 0, none⟩) (setC c x (y : Int)).V.length l1) (.slice (some ⟨g2, 0, none⟩) (setC c x (y : Int)).N.length l2) (.slice (some ⟨g3, 0, none⟩) (setC c x (y : Int)).M.length l3)
  have y0 := bz.c0
  have y1 := bz.c1
  have y2 := bz.c2
  have hz := HZ.out
  have hz3 : W0.heap.size ≤ w3.heap.size := Hq3.out.size
  have o1 := HO.out.o1
  have o2 := HO.out.o2
  have o3 := HO.out.o3
  have O4 := out_end ((HO.out.from (q0.trans Hq3.out)).more qb) (by omega) (by omega) (by omega) (.slice (some ⟨g1, 0, none⟩) (setC c x (y : Int)).V.length l1) (.slice (some ⟨g2, 0, none⟩) (setC c x (y : Int)).N.length l2) (.slice (some ⟨g3, 0, none⟩) (setC c x (y : Int)).M.length l3)
  exact bodyPost_ret (v := .agg #[.slice (some ⟨g1, 0, none⟩) (setC c x (y : Int)).V.length l1, .slice (some ⟨g2, 0, none⟩) (setC c x (y : Int)).N.length l2, .slice (some ⟨g3, 0, none⟩) (setC c x (y : Int)).M.length l3]) (by simp [results, Try.f12, go_sem, y0, y1, y2]) rfl ⟨_, l1, _, l2, _, l3, rfl, OutO.of O4⟩

set_option maxRecDepth 100000 in
set_option maxHeartbeats 2000000 in
theorem join_put (R : List Int) (c : Cells) (a b x y : Nat) (A D E F : Option Addr) (n1 k1 n2 k2 n3 k3 n4 k4 : Nat) (w : World) (h1 : n1 = c.V.length) (h2 : n2 = c.N.length) (h3 : n3 = c.M.length) (h4 : n4 = R.length) (h : Rd w c A k1 D k2 E k3) (hR : Rds w w.heap.size F (cellsI R)) (hf : Few c 1000000) (hC : Cl R c.V) (ha : a < c.V.length) (hb : b < c.V.length) (hx : fst c.V a = x) (hy : fst c.V b = y) (hl : lessB R y x = false) (he : x ≠ y) :
    Calls Try.prog 12 #[.agg #[.slice A n1 k1, .slice D n2 k2, .slice E n3 k3], .slice F n4 k4, .int .i64 (a : Int), .int .i64 (b : Int)] w (OPost (setC c y (x : Int)) w) := by
  subst h1 h2 h3 h4
  obtain ⟨W0, hW0, q0, hz0, hB, hX⟩ := boxes w (Value.slice A c.V.length k1) (Value.slice D c.N.length k2) (Value.slice E c.M.length k3) 25
  have HB := Lib.hid hB
  have HX := Lib.hid hX
  have HR := Lib.hid (h.q q0)
  have HRk := Lib.hid (hR.q q0)
  have HZ := Lib.hid hz0
  have HW := Lib.hid hW0
  have Hf := Lib.hid hf
  have hxl : x < c.V.length := by rw [← hx]; exact (hC.fst_in a ha).1
  have hyl : y < c.V.length := by rw [← hy]; exact (hC.fst_in b hb).1
  have Ha : Hid (∀ W, Q W0 W → Calls Try.prog 14 #[.agg #[.slice A c.V.length k1, .slice D c.N.length k2, .slice E c.M.length k3], .int .i64 (a : Int)] W fun e W' => e = .returned (.int .i64 (x : Int)) ∧ Q W W') := fun W q => by have := find_any R c a A D E _ k1 _ k2 _ k3 W rfl rfl rfl (HR.out.q q) hC ha hf.1; rwa [hx] at this
  have Hb : Hid (∀ W, Q W0 W → Calls Try.prog 14 #[.agg #[.slice A c.V.length k1, .slice D c.N.length k2, .slice E c.M.length k3], .int .i64 (b : Int)] W fun e W' => e = .returned (.int .i64 (y : Int)) ∧ Q W W') := fun W q => by have := find_any R c b A D E _ k1 _ k2 _ k3 W rfl rfl rfl (HR.out.q q) hC hb hf.1; rwa [hy] at this
  have HL : Hid (∀ W, Q W0 W → Calls Try.prog 15 #[.slice F R.length k4, .int .i64 (y : Int), .int .i64 (x : Int)] W fun e W' => e = .returned (.bool (lessB R y x)) ∧ Q W W') := fun W q => less_any R F _ k4 y x W rfl (HRk.out.q q)
  clear h hR hB hX hz0 hW0 hx hy ha hb hC hf
  go_enter Try.func12, Try.ntmps12
  go_upto_region 1 with fail
  rw [← HW.out]
  clear HW
  have c0 := HB.out.c0
  have c1 := HB.out.c1
  have c2 := HB.out.c2
  have hlt0 := HB.out.lt
  go_region_held3 (fun w' => w'.cell? ⟨w.heap.size, 0, none⟩ = some (.slice A c.V.length k1) ∧ w'.cell? ⟨w.heap.size, 1, none⟩ = some (.slice D c.N.length k2) ∧ w'.cell? ⟨w.heap.size, 2, none⟩ = some (.slice E c.M.length k3))
    (first
      | go_keep
      | exact ⟨(p2.cell (p := ⟨w.heap.size, 0, none⟩) hlt0).trans c0, (p2.cell (p := ⟨w.heap.size, 1, none⟩) hlt0).trans c1, (p2.cell (p := ⟨w.heap.size, 2, none⟩) hlt0).trans c2⟩
      | exact ⟨(p1.cell (p := ⟨w.heap.size, 0, none⟩) hlt0).trans c0, (p1.cell (p := ⟨w.heap.size, 1, none⟩) hlt0).trans c1, (p1.cell (p := ⟨w.heap.size, 2, none⟩) hlt0).trans c2⟩)
    (first
      | (go_at_call 14; (with_reducible refine (Ha.out _ (Q.refl W0).drew).mono ?_); rintro e w1 ⟨rfl, q1⟩; have p1 : Q W0 w1 := (Q.refl W0).drew.trans q1)
      | (go_at_call 14; (with_reducible refine (Hb.out _ p1).mono ?_); rintro e w2 ⟨rfl, q2⟩; have p2 : Q W0 w2 := p1.trans q2))
  clear c0 c1 c2 q1 q2 p1
  have c0 := (HB.out.q p2).c0
  have c1 := (HB.out.q p2).c1
  have c2 := (HB.out.q p2).c2
  have HL2 := Lib.hid (HL.out w2 p2)
  have Hp2 := Lib.hid p2
  clear HL p2 Ha Hb
  have HLB := Lib.hid hl
  have hdx : (decide (0 ≤ (x : Int)) && decide ((x : Int) < (c.V.length : Int))) = true := by rw [decide_eq_true (show (0 : Int) ≤ (x : Int) by omega), decide_eq_true (show (x : Int) < (c.V.length : Int) by omega)]; rfl
  have hdy : (decide (0 ≤ (y : Int)) && decide ((y : Int) < (c.V.length : Int))) = true := by rw [decide_eq_true (show (0 : Int) ≤ (y : Int) by omega), decide_eq_true (show (y : Int) < (c.V.length : Int) by omega)]; rfl
  have e1 : ((x : Int) == (y : Int)) = false := beq_eq_false_iff_ne.2 (by omega)
  have e2 : (x == y) = false := beq_eq_false_iff_ne.2 he
  have e3 : ((y : Int) == (x : Int)) = false := beq_eq_false_iff_ne.2 (by omega)
  have e4 : (y == x) = false := beq_eq_false_iff_ne.2 (fun e => he e.symm)
  clear hl he
  rw [HLB.out] at HL2
  go_wp2_with (first
    | (go_at_call 15; refine HL2.out.mono ?_; rintro e w3 ⟨rfl, q3⟩; have HB3 := Lib.hid ((HB.out.q Hp2.out).q q3); have HR3 := Lib.hid ((HR.out.q Hp2.out).q q3); have HX3 := Lib.hid ((HX.out.q Hp2.out).q q3); have Hq3 := Lib.hid (Hp2.out.trans q3); clear q3; have c0 := HB3.out.c0; have c1 := HB3.out.c1; have c2 := HB3.out.c2)
    | (go_at_call 27; refine (placeU _ _ _).mono ?_; rintro e w4 ⟨rfl, rfl⟩; first | rw [hdx] | rw [hdy])
    | (go_at_call 29; refine (set_some c y (x : Int) A D E _ k1 _ k2 _ k3 w3 rfl rfl rfl HR3.out Hf.out hyl).mono ?_; rintro e w5 ⟨g1, l1, g2, l2, g3, l3, rfl, hO⟩; have HO := Lib.hid hO; have qb := (Q.refl w5).alloc (Obj.cells #[(.slice (some ⟨g1, 0, none⟩) (setC c y (x : Int)).V.length l1), (.slice (some ⟨g2, 0, none⟩) (setC c y (x : Int)).N.length l2), (.slice (some ⟨g3, 0, none⟩) (setC c y (x : Int)).M.length l3)] 25); have bx := (HX3.out.q hO.q).q qb; have x0 := bx.c0; have x1 := bx.c1; have x2 := bx.c2; have u0 := bx.f0; have u1 := bx.f1; have u2 := bx.f2; clear hO))
  have bz := bx.all (.slice (some ⟨g1, 0, none⟩) (setC c y (x : Int)).V.length l1) (.slice (some ⟨g2, 0, none⟩) (setC c y (x : Int)).N.length l2) (.slice (some ⟨g3, 0, none⟩) (setC c y (x : Int)).M.length l3)
  have y0 := bz.c0
  have y1 := bz.c1
  have y2 := bz.c2
  have hz := HZ.out
  have hz3 : W0.heap.size ≤ w3.heap.size := Hq3.out.size
  have o1 := HO.out.o1
  have o2 := HO.out.o2
  have o3 := HO.out.o3
  have O4 := out_end ((HO.out.from (q0.trans Hq3.out)).more qb) (by omega) (by omega) (by omega) (.slice (some ⟨g1, 0, none⟩) (setC c y (x : Int)).V.length l1) (.slice (some ⟨g2, 0, none⟩) (setC c y (x : Int)).N.length l2) (.slice (some ⟨g3, 0, none⟩) (setC c y (x : Int)).M.length l3)
  exact bodyPost_ret (v := .agg #[.slice (some ⟨g1, 0, none⟩) (setC c y (x : Int)).V.length l1, .slice (some ⟨g2, 0, none⟩) (setC c y (x : Int)).N.length l2, .slice (some ⟨g3, 0, none⟩) (setC c y (x : Int)).M.length l3]) (by simp [results, Try.f12, go_sem, y0, y1, y2]) rfl ⟨_, l1, _, l2, _, l3, rfl, OutO.of O4⟩

theorem join_any (R : List Int) (c : Cells) (a b : Nat) (A D E F : Option Addr) (n1 k1 n2 k2 n3 k3 n4 k4 : Nat) (w : World) (h1 : n1 = c.V.length) (h2 : n2 = c.N.length) (h3 : n3 = c.M.length) (h4 : n4 = R.length) (h : Rd w c A k1 D k2 E k3) (hR : Rds w w.heap.size F (cellsI R)) (hf : Few c 1000000) (hC : Cl R c.V) (ha : a < c.V.length) (hb : b < c.V.length) :
    Calls Try.prog 12 #[.agg #[.slice A n1 k1, .slice D n2 k2, .slice E n3 k3], .slice F n4 k4, .int .i64 (a : Int), .int .i64 (b : Int)] w (OPost (joinC R c a b) w) := by
  unfold joinC
  by_cases e : fst c.V a = fst c.V b
  · rw [if_pos e]
    exact join_same R c a b _ _ A D E F n1 k1 n2 k2 n3 k3 n4 k4 w h1 h2 h3 h4 h hR hf hC ha hb rfl rfl (by rw [e, less_self]) e
  · rw [if_neg e]
    by_cases hl : lessB R (fst c.V b) (fst c.V a) = true
    · rw [if_pos hl]
      exact join_swap R c a b _ _ A D E F n1 k1 n2 k2 n3 k3 n4 k4 w h1 h2 h3 h4 h hR hf hC ha hb rfl rfl hl e
    · rw [if_neg hl]
      exact join_put R c a b _ _ A D E F n1 k1 n2 k2 n3 k3 n4 k4 w h1 h2 h3 h4 h hR hf hC ha hb rfl rfl (by simpa using hl) e
end Go.Proofs.Ytodmompfnlcjpaa.Uf
