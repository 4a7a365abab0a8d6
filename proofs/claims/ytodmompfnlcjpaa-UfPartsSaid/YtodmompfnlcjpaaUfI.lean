/-
  Contracts: the program's Right of classes that are right, the document's example (at the head of all statements of the layer).
-/
import Derived.Test.YtodmompfnlcjpaaUfJ
import Derived.Test.YtodmompfnlcjpaaUfF
import Derived.Test.YtodmompfnlcjpaaTrailI
namespace Go.Proofs.Ytodmompfnlcjpaa.Uf
open Go.RowKit Kit Tr

set_option maxRecDepth 100000 in
set_option maxHeartbeats 1000000 in
theorem rightU_true (R : List Int) (c : Cells) (A D E F : Option Addr) (n1 k1 n2 k2 n3 k3 n4 k4 : Nat) (w : World) (h1 : n1 = c.V.length) (h2 : n2 = c.N.length) (h3 : n3 = c.M.length) (h4 : n4 = R.length) (h : Rd w c A k1 D k2 E k3) (hR : Rds w w.heap.size F (cellsI R)) (hf : Few c 1000000) (hC : Cl R c.V) (hr : rightB c = true) :
    Calls Try.prog 23 #[.agg #[.slice A n1 k1, .slice D n2 k2, .slice E n3 k3], .slice F n4 k4] w fun e w' => e = .returned (.bool true) ∧ Q w w' := by
  subst h1 h2 h3 h4
  have q0 := (Q.refl w).alloc (Obj.cells #[Value.slice A c.V.length k1, Value.slice D c.N.length k2, Value.slice E c.M.length k3] 25)
  have HB := Lib.hid (Box3.new w (Value.slice A c.V.length k1) (Value.slice D c.N.length k2) (Value.slice E c.M.length k3) 25)
  have HR := Lib.hid (h.q q0)
  have HRk := Lib.hid (hR.q q0)
  have HC := Lib.hid hC
  have Hf := Lib.hid hf
  have Hr := Lib.hid hr
  have fv := hf.1
  clear h hR hC hf hr
  go_enter Try.func23, Try.ntmps23
  go_upto_region 1 with fail
  generalize w.alloc (Obj.cells #[Value.slice A c.V.length k1, Value.slice D c.N.length k2, Value.slice E c.M.length k3] 25) = W0 at *
  have HF := Lib.hid (fun (a b : Int) W (q : Q (twoF W0 F R.length k4) W) => aheadF R F _ k4 rfl a b W0 W HRk.out q)
  have qF := twoF_q W0 F R.length k4
  go_upto_region 2 with (go_at_call 31; refine (order_any _ _ _ _).mono ?_; rintro e w1 ⟨rfl, rfl⟩)
  generalize twoF W0 F R.length k4 = W1 at *
  have HB1 := Lib.hid (HB.out.q qF)
  have HR1 := Lib.hid (HR.out.q qF)
  have b0 := HB1.out.c0
  have Hq1 := Lib.hid (q0.trans qF)
  go_wp2_with fail
  go_loopw [13] (fun i wr => ∃ (k : Nat), k ≤ c.V.length ∧ i = .int .i64 k ∧ Hid (Q W1 wr)) (fun i _ => c.V.length - (intOf i).toNat)
  case atStart => exact ⟨0, Nat.zero_le _, rfl, Lib.hid (Q.refl _)⟩
  case round =>
    clear b0
    obtain ⟨k, hk, rfl, HQ⟩ := hrel
    have b0 := (HB1.out.q HQ.out).c0
    have b1 := (HB1.out.q HQ.out).c1
    have b2 := (HB1.out.q HQ.out).c2
    by_cases hlt : k < c.V.length
    · obtain ⟨ad, e, _, c0⟩ := (HR1.out.v.q HQ.out).int_at hlt
      rw [HC.out.at hlt] at c0
      rw [e] at b0
      obtain ⟨p1, _, p3⟩ := HC.out.parent hlt
      clear e
      by_cases e : par c.V k = k
      · rw [e] at c0
        have e1 : ((k : Int) != (k : Int)) = false := by simp
        clear p3 e
        go_wp2_with fail
        go_roundw
        case rel => exact ⟨k + 1, by omega, by go_num, HQ⟩
        case measure => simp [intOf]; omega
      · have hl := p3.resolve_left e
        have C := Lib.hid (HF.out (par c.V k : Int) (k : Int) wr HQ.out)
        rw [hl] at C
        have e1 : ((par c.V k : Int) != (k : Int)) = true := bne_iff_ne.2 (by omega)
        have e2 : (par c.V k != k) = true := by simpa using e
        have hd : (decide (0 ≤ (par c.V k : Int)) && decide ((par c.V k : Int) < (c.V.length : Int))) = true := by rw [decide_eq_true (show (0 : Int) ≤ (par c.V k : Int) by omega), decide_eq_true (show (par c.V k : Int) < (c.V.length : Int) by omega)]; rfl
        clear p3 e hl
        go_wp2_with (first
          | (go_at_call 27; refine (placeU _ _ _).mono ?_; rintro e w4 ⟨rfl, rfl⟩; rw [hd])
          | (go_at_call 47; refine C.out.mono ?_; rintro e w4 ⟨rfl, hd4⟩; have q4 := q_drewN _ hd4; clear hd4))
        go_roundw
        case rel => exact ⟨k + 1, by omega, by go_num, Lib.hid (HQ.out.trans q4)⟩
        case measure => simp [intOf]; omega
    · have C := Lib.hid (right_true c A D E _ k1 _ k2 _ k3 wr rfl rfl rfl (HR1.out.q HQ.out) Hf.out Hr.out)
      go_wp2_with (go_at_call 41; refine C.out.mono ?_; rintro e w4 ⟨rfl, q4⟩)
      go_ret
      exact ⟨rfl, Hq1.out.trans (HQ.out.trans q4)⟩

def e0 : Cells := ⟨[], [], []⟩
def e1 : Cells := ⟨[0], [(-1, 0)], []⟩
def e2 : Cells := ⟨[0, 1], [(-1, 0), (-1, 0)], []⟩
def e3 : Cells := ⟨[0, 1, 2], [(-1, 0), (-1, 0), (-1, 0)], []⟩
def e4 : Cells := ⟨[0, 1, 1], [(-1, 0), (-1, 0), (-1, 0), (2, 2)], []⟩
theorem small {c : Cells} (h1 : c.V.length ≤ 9) (h2 : c.N.length ≤ 9) (h3 : c.M.length ≤ 9) : Few c 1000000 := ⟨by omega, by omega, by omega⟩
theorem cl3 : Cl [] e3.V := cl_of (by decide)
theorem cl4 : Cl [] e4.V := cl_of (by decide)

set_option maxRecDepth 100000 in
set_option maxHeartbeats 1000000 in
theorem three_any (w : World) : Calls Try.prog 22 #[] w (OPost e3 w) := by
  have HX := Lib.hid (Box3.new w (Value.slice none 0 0) (Value.slice none 0 0) (Value.slice none 0 0) 25)
  have q0 := (Q.refl w).alloc (Obj.cells #[Value.slice none 0 0, Value.slice none 0 0, Value.slice none 0 0] 25)
  go_enter Try.func22, Try.ntmps22
  go_upto_region 1 with fail
  generalize w.alloc (Obj.cells #[Value.slice none 0 0, Value.slice none 0 0, Value.slice none 0 0] 25) = W0 at *
  have HR0 : Hid (Rd W0 e0 none 0 none 0 none 0) := ⟨Rds.nil _ _ _, Rds.nil _ _ _, Rds.nil _ _ _, by simp [e0], by simp [e0], by simp [e0]⟩
  have C1 : Hid (Calls Try.prog 18 #[.agg #[.slice none 0 0, .slice none 0 0, .slice none 0 0]] W0 (OPost e1 W0)) := add_any e0 none none none 0 0 0 0 0 0 W0 rfl rfl rfl HR0.out (small (by simp [e0]) (by simp [e0]) (by simp [e0]))
  go_wp2_with (first
    | (go_at_call 18; (with_reducible refine C1.out.mono ?_); rintro e w1 ⟨A1, k1, D1, l1, E1, m1, rfl, hO1⟩; have q1 := hO1.q; have hR1 := hO1.rd; have C2 : Hid (Calls Try.prog 18 #[.agg #[.slice A1 e1.V.length k1, .slice D1 e1.N.length l1, .slice E1 e1.M.length m1]] w1 (OPost e2 w1)) := add_any e1 A1 D1 E1 _ k1 _ l1 _ m1 w1 rfl rfl rfl hR1 (small (by simp [e1]) (by simp [e1]) (by simp [e1])); clear hR1 hO1)
    | (go_at_call 18; (with_reducible refine C2.out.mono ?_); rintro e w2 ⟨A2, k2, D2, l2, E2, m2, rfl, hO2⟩; have q2 := hO2.q; have hR2 := hO2.rd; have C3 : Hid (Calls Try.prog 18 #[.agg #[.slice A2 e2.V.length k2, .slice D2 e2.N.length l2, .slice E2 e2.M.length m2]] w2 (OPost e3 w2)) := add_any e2 A2 D2 E2 _ k2 _ l2 _ m2 w2 rfl rfl rfl hR2 (small (by simp [e2]) (by simp [e2]) (by simp [e2])); clear hR2 hO2)
    | (go_at_call 18; (with_reducible refine C3.out.mono ?_); rintro e w3 ⟨A3, k3, D3, l3, E3, m3, rfl, hO3⟩; have q3 := hO3.q; have hR3 := hO3.rd; have bx := HX.out.q ((q1.trans q2).trans q3); have x0 := bx.c0; have x1 := bx.c1; have x2 := bx.c2; have u0 := bx.f0; have u1 := bx.f1; have u2 := bx.f2; have HO3 := Lib.hid hO3; clear hO3 hR3))
  have bz := bx.all (.slice A3 e3.V.length k3) (.slice D3 e3.N.length l3) (.slice E3 e3.M.length m3)
  have y0 := bz.c0
  have y1 := bz.c1
  have y2 := bz.c2
  have hlt := HX.out.lt
  have hgr := set3_grown w3 w.heap.size (.slice A3 e3.V.length k3) (.slice D3 e3.N.length l3) (.slice E3 e3.M.length m3)
  have h12 : W0.heap.size ≤ w2.heap.size := (q1.trans q2).size
  exact bodyPost_ret (v := .agg #[.slice A3 e3.V.length k3, .slice D3 e3.N.length l3, .slice E3 e3.M.length m3]) (by simp [results, Try.f22, go_sem, y0, y1, y2]) rfl ⟨_, k3, _, l3, _, m3, rfl, HO3.out.far ((q0.trans q1).trans q2) hgr (by omega) (Nat.le_refl _)⟩

set_option maxRecDepth 100000 in
set_option maxHeartbeats 2000000 in
theorem shown_any (w : World) : Calls Try.prog 8 #[] w fun e w' => e = .returned (.bool true) ∧ Q w w' := by
  have C0 := Lib.hid (three_any w)
  go_enter Try.func8, Try.ntmps8
  go_upto_region 2 with (go_at_call 22; refine C0.out.mono ?_; rintro e w1 ⟨A1, k1, D1, l1, E1, m1, rfl, hO⟩; have HO := Lib.hid hO; clear hO)
  have HB := Lib.hid (Box3.new w1 (.slice A1 e3.V.length k1) (.slice D1 e3.N.length l1) (.slice E1 e3.M.length m1) 25)
  have qb := (Q.refl w1).alloc (.cells #[.slice A1 e3.V.length k1, .slice D1 e3.N.length l1, .slice E1 e3.M.length m1] 25)
  have HR1 := Lib.hid (HO.out.rd.q qb)
  have Hq1 := Lib.hid (HO.out.q.trans qb)
  have Hw : Hid (w.heap.size ≤ w1.heap.size) := HO.out.q.size
  clear HO qb
  generalize w1.alloc (.cells #[.slice A1 e3.V.length k1, .slice D1 e3.N.length l1, .slice E1 e3.M.length m1] 25) = W1 at *
  generalize w1.heap.size = B at *
  have b0 : W1.cell? ⟨B, 0, none⟩ = some (.slice A1 3 k1) := HB.out.c0
  have b1 := HB.out.c1
  have b2 := HB.out.c2
  have CJ : Hid (Calls Try.prog 12 #[.agg #[.slice A1 3 k1, .slice D1 e3.N.length l1, .slice E1 e3.M.length m1], .slice none 0 0, .int .i64 2, .int .i64 1] W1 (OPost e4 W1)) := join_any [] e3 2 1 A1 D1 E1 none _ k1 _ l1 _ m1 0 0 W1 rfl rfl rfl rfl HR1.out (Rds.nil _ _ _) (small (by simp [e3]) (by simp [e3]) (by simp [e3])) cl3 (by simp [e3]) (by simp [e3])
  have hlt := HB.out.lt
  go_wp2_with fail
  refine CJ.out.mono ?_
  rintro e w2 ⟨A2, k2, D2, l2, E2, m2, rfl, hO⟩
  have bx := HB.out.q hO.q
  have x0 := bx.c0
  have x1 := bx.c1
  have x2 := bx.c2
  have u0 := bx.f0
  have u1 := bx.f1
  have u2 := bx.f2
  have hgr := set3_grown w2 B (.slice A2 e4.V.length k2) (.slice D2 e4.N.length l2) (.slice E2 e4.M.length m2)
  have HBz := Lib.hid (bx.all (.slice A2 e4.V.length k2) (.slice D2 e4.N.length l2) (.slice E2 e4.M.length m2))
  have HO3 := Lib.hid (hO.far Hq1.out hgr hlt Hw.out)
  have f2 : fst e4.V 2 = 1 := by decide
  have l2c : (classL e4.V 1).length = 2 := by decide
  have l2f : (firstsL e4.V).length = 2 := by decide
  have ls : lessB [] 1 2 = true := by decide
  have r4 : rightB e4 = true := by decide
  clear hO bx b0 b1 b2
  go_upto_region 5 with fail
  clear x0 x1 x2 u0 u1 u2 hgr
  generalize ((w2.setCell ⟨B, 0, none⟩ (.slice A2 e4.V.length k2)).setCell ⟨B, 1, none⟩ (.slice D2 e4.N.length l2)).setCell ⟨B, 2, none⟩ (.slice E2 e4.M.length m2) = W2 at *
  have b0 : W2.cell? ⟨B, 0, none⟩ = some (.slice A2 3 k2) := HBz.out.c0
  have b1 : W2.cell? ⟨B, 1, none⟩ = some (.slice D2 4 l2) := HBz.out.c1
  have b2 : W2.cell? ⟨B, 2, none⟩ = some (.slice E2 0 m2) := HBz.out.c2
  have HR4 := Lib.hid HO3.out.rd
  have F4 := Lib.hid (show Few e4 1000000 from small (by simp [e4]) (by simp [e4]) (by simp [e4]))
  have C1 : Hid (Calls Try.prog 14 #[.agg #[.slice A2 3 k2, .slice D2 4 l2, .slice E2 0 m2], .int .i64 2] W2 fun e w' => e = .returned (.int .i64 1) ∧ Q W2 w') := by have := find_any [] e4 2 A2 D2 E2 3 k2 4 l2 0 m2 W2 rfl rfl rfl HR4.out cl4 (by simp [e4]) F4.out.1; rwa [f2] at this
  have C2 : Hid (∀ W, Q W2 W → Calls Try.prog 17 #[.agg #[.slice A2 3 k2, .slice D2 4 l2, .slice E2 0 m2], .int .i64 1] W fun e w' => ∃ A k, e = .returned (.slice A 2 k) ∧ Q W w') := fun W q => (class_any [] e4 1 A2 D2 E2 3 k2 4 l2 0 m2 W rfl rfl rfl (HR4.out.q q) cl4 (by simp [e4]) F4.out.1).mono (by rintro e w' ⟨A, k, rfl, _, _, q⟩; exact ⟨A, k, by rw [l2c], q⟩)
  have C3 : Hid (∀ W, Q W2 W → Calls Try.prog 16 #[.agg #[.slice A2 3 k2, .slice D2 4 l2, .slice E2 0 m2]] W fun e w' => ∃ A k, e = .returned (.slice A 2 k) ∧ Q W w') := fun W q => (firsts_any [] e4 A2 D2 E2 3 k2 4 l2 0 m2 W rfl rfl rfl (HR4.out.q q) cl4 F4.out.1).mono (by rintro e w' ⟨A, k, rfl, _, _, q⟩; exact ⟨A, k, by rw [l2f], q⟩)
  have C4 : Hid (∀ W, Calls Try.prog 15 #[.slice none 0 0, .int .i64 1, .int .i64 2] W fun e w' => e = .returned (.bool true) ∧ Q W w') := fun W => by have := less_any [] none 0 0 1 2 W rfl (Rds.nil _ _ _); rwa [ls] at this
  have C5 : Hid (∀ W, Q W2 W → Calls Try.prog 23 #[.agg #[.slice A2 3 k2, .slice D2 4 l2, .slice E2 0 m2], .slice none 0 0] W fun e w' => e = .returned (.bool true) ∧ Q W w') := fun W q => rightU_true [] e4 A2 D2 E2 none 3 k2 4 l2 0 m2 0 0 W rfl rfl rfl rfl (HR4.out.q q) (Rds.nil _ _ _) F4.out cl4 r4
  clear f2 l2c l2f ls r4 hlt
  go_wp2_with (first
    | (go_at_call 14; refine C1.out.mono ?_; rintro e v1 ⟨rfl, q1⟩; have Hq := Lib.hid q1; clear q1 b0 b1 b2; have b0 : v1.cell? ⟨B, 0, none⟩ = some (.slice A2 3 k2) := (HBz.out.q Hq.out).c0; have b1 : v1.cell? ⟨B, 1, none⟩ = some (.slice D2 4 l2) := (HBz.out.q Hq.out).c1; have b2 : v1.cell? ⟨B, 2, none⟩ = some (.slice E2 0 m2) := (HBz.out.q Hq.out).c2)
    | (go_at_call 17; refine (C2.out _ Hq.out).mono ?_; rintro e v2 ⟨A5, k5, rfl, q2⟩; have Hqb := Lib.hid (Hq.out.trans q2); clear q2 b0 b1 b2; have b0 : v2.cell? ⟨B, 0, none⟩ = some (.slice A2 3 k2) := (HBz.out.q Hqb.out).c0; have b1 : v2.cell? ⟨B, 1, none⟩ = some (.slice D2 4 l2) := (HBz.out.q Hqb.out).c1; have b2 : v2.cell? ⟨B, 2, none⟩ = some (.slice E2 0 m2) := (HBz.out.q Hqb.out).c2)
    | (go_at_call 16; refine (C3.out _ Hqb.out).mono ?_; rintro e v3 ⟨A6, k6, rfl, q3⟩; have Hqc := Lib.hid (Hqb.out.trans q3); clear q3 b0 b1 b2)
    | (go_at_call 15; refine (C4.out _).mono ?_; rintro e v4 ⟨rfl, q4⟩; have Hqd := Lib.hid (Hqc.out.trans q4); clear q4; have b0 : v4.cell? ⟨B, 0, none⟩ = some (.slice A2 3 k2) := (HBz.out.q Hqd.out).c0; have b1 : v4.cell? ⟨B, 1, none⟩ = some (.slice D2 4 l2) := (HBz.out.q Hqd.out).c1; have b2 : v4.cell? ⟨B, 2, none⟩ = some (.slice E2 0 m2) := (HBz.out.q Hqd.out).c2)
    | (go_at_call 23; refine (C5.out _ Hqd.out).mono ?_; rintro e v5 ⟨rfl, q5⟩; have Hqe := Lib.hid (Hqd.out.trans q5); clear q5))
  go_ret
  exact ⟨rfl, HO3.out.q.trans Hqe.out⟩
end Go.Proofs.Ytodmompfnlcjpaa.Uf
