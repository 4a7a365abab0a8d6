/-
  Contracts: Firsts, Class.
-/
import Derived.Test.YtodmompfnlcjpaaUfE
namespace Go.Proofs.Ytodmompfnlcjpaa.Uf
open Go.RowKit Kit Tr

theorem firsts1_any (R : List Int) (c : Cells) (A : Option Addr) (k1 B x : Nat) (w : World) (hb : w.cell? ⟨B, 0, none⟩ = some (.slice A c.V.length k1)) (hv : Rds w w.heap.size A (cellsI c.V)) (hC : Cl R c.V) (hx : x < c.V.length) :
    Calls Try.prog 33 #[.int .i64 (x : Int), .pointer (some ⟨B, 0, none⟩)] w fun e w' => e = .returned (.bool (par c.V x == x)) ∧ ∃ d, w' = w.drewN d := by
  obtain ⟨ad, e, _, c0⟩ := hv.int_at hx
  rw [hC.at hx] at c0
  rw [e] at hb
  have HE : Hid (((par c.V x : Int) == (x : Int)) = (par c.V x == x)) := by
    unfold Hid
    by_cases h : par c.V x = x
    · rw [h]; simp
    · rw [beq_eq_false_iff_ne.2 h, beq_eq_false_iff_ne.2 (by omega)]
  clear e hv hC
  go_enter Try.func33, Try.ntmps33
  go_wp2_with fail
  go_ret
  exact ⟨by first | rfl | (rw [← HE.out]; rfl), 0, rfl⟩

set_option maxRecDepth 100000 in
set_option maxHeartbeats 1000000 in
theorem firsts_any (R : List Int) (c : Cells) (A D E : Option Addr) (n1 k1 n2 k2 n3 k3 : Nat) (w : World) (h1 : n1 = c.V.length) (h2 : n2 = c.N.length) (h3 : n3 = c.M.length) (h : Rd w c A k1 D k2 E k3) (hC : Cl R c.V) (hl : c.V.length ≤ 1000000) :
    Calls Try.prog 16 #[.agg #[.slice A n1 k1, .slice D n2 k2, .slice E n3 k3]] w (RowPost (firstsL c.V) w) := by
  subst h1 h2 h3
  have q0 := (Q.refl w).alloc (Obj.cells #[Value.slice A c.V.length k1, Value.slice D c.N.length k2, Value.slice E c.M.length k3] 25)
  have HB := Lib.hid (Box3.new w (Value.slice A c.V.length k1) (Value.slice D c.N.length k2) (Value.slice E c.M.length k3) 25)
  have HR := Lib.hid (h.q q0)
  have HC := Lib.hid hC
  clear h hC
  go_enter Try.func16, Try.ntmps16
  go_upto_region 1 with fail
  generalize w.alloc (Obj.cells #[Value.slice A c.V.length k1, Value.slice D c.N.length k2, Value.slice E c.M.length k3] 25) = W0 at *
  have b0 := HB.out.c0
  have C := Lib.hid (thoseF w.heap.size c.V.length (fun m => par c.V m == m) W0 hl (fun x W hx q => firsts1_any R c A k1 w.heap.size x W (HB.out.q q).c0 (HR.out.v.q q) HC.out hx))
  go_wp2_with (go_at_call 32; refine C.out.mono ?_; rintro e w2 ⟨A2, k, rfl, hk, hr, q2⟩)
  go_ret
  exact ⟨A2, k, rfl, hk, hr, q0.trans q2⟩

theorem class1_any (V : List Int) (A : Option Addr) (n B B2 k x m : Nat) (w : World) (hn : n = (firstRow V).length) (hb : w.cell? ⟨B, 0, none⟩ = some (.slice A n k)) (hb2 : w.cell? ⟨B2, 0, none⟩ = some (.int .i64 (m : Int))) (hv : Rds w w.heap.size A (cellsI (firstRow V))) (hx : x < V.length) (hm : m < V.length) :
    Calls Try.prog 35 #[.int .i64 (x : Int), .pointer (some ⟨B, 0, none⟩), .pointer (some ⟨B2, 0, none⟩)] w fun e w' => e = .returned (.bool (fst V x == fst V m)) ∧ ∃ d, w' = w.drewN d := by
  subst hn
  obtain ⟨ad, e, _, c0⟩ := hv.int_at (k := x) (by rw [firstRow_len]; exact hx)
  have e0 : (firstRow V)[x]'(by rw [firstRow_len]; exact hx) = (fst V x : Int) := by have := firstRow_at hx; rw [List.getElem?_eq_getElem (by rw [firstRow_len]; exact hx)] at this; injection this
  rw [e0] at c0
  subst e
  have c1 := hv.int_some (k := m) (by rw [firstRow_len]; exact hm)
  have e1 : (firstRow V)[m]'(by rw [firstRow_len]; exact hm) = (fst V m : Int) := by have := firstRow_at hm; rw [List.getElem?_eq_getElem (by rw [firstRow_len]; exact hm)] at this; injection this
  rw [e1] at c1
  rw [firstRow_len] at hb
  have HE : Hid (((fst V x : Int) == (fst V m : Int)) = (fst V x == fst V m)) := by
    unfold Hid
    by_cases h : fst V x = fst V m
    · rw [h]; simp
    · rw [beq_eq_false_iff_ne.2 h, beq_eq_false_iff_ne.2 (by omega)]
  have j1 : (x : Int) < (V.length : Int) := by omega
  have j2 : (m : Int) < (V.length : Int) := by omega
  clear hv e0 e1
  go_enter Try.func35, Try.ntmps35
  go_wp2_with fail
  go_quiet (fail)
  go_wp2_with fail
  go_ret
  exact ⟨by first | rfl | (rw [← HE.out]; rfl), _, rfl⟩

set_option maxRecDepth 100000 in
set_option maxHeartbeats 1000000 in
theorem class_any (R : List Int) (c : Cells) (m : Nat) (A D E : Option Addr) (n1 k1 n2 k2 n3 k3 : Nat) (w : World) (h1 : n1 = c.V.length) (h2 : n2 = c.N.length) (h3 : n3 = c.M.length) (h : Rd w c A k1 D k2 E k3) (hC : Cl R c.V) (hm : m < c.V.length) (hl : c.V.length ≤ 1000000) :
    Calls Try.prog 17 #[.agg #[.slice A n1 k1, .slice D n2 k2, .slice E n3 k3], .int .i64 (m : Int)] w (RowPost (classL c.V m) w) := by
  subst h1 h2 h3
  have q0 := ((Q.refl w).alloc (Obj.cells #[Value.slice A c.V.length k1, Value.slice D c.N.length k2, Value.slice E c.M.length k3] 25)).alloc (Obj.cells #[.int .i64 (m : Int)] 3)
  have HB := Lib.hid ((Box3.new w (Value.slice A c.V.length k1) (Value.slice D c.N.length k2) (Value.slice E c.M.length k3) 25).q ((Q.refl _).alloc (Obj.cells #[.int .i64 (m : Int)] 3)))
  have HN : Hid (((w.alloc (Obj.cells #[Value.slice A c.V.length k1, Value.slice D c.N.length k2, Value.slice E c.M.length k3] 25)).alloc (Obj.cells #[.int .i64 (m : Int)] 3)).cell? ⟨w.heap.size + 1, 0, none⟩ = some (.int .i64 (m : Int))) := by
    unfold Hid
    rw [← World.size_alloc w (Obj.cells #[Value.slice A c.V.length k1, Value.slice D c.N.length k2, Value.slice E c.M.length k3] 25)]; simp
  have HZ : Hid (((w.alloc (Obj.cells #[Value.slice A c.V.length k1, Value.slice D c.N.length k2, Value.slice E c.M.length k3] 25)).alloc (Obj.cells #[.int .i64 (m : Int)] 3)).heap.size = w.heap.size + 2) := by unfold Hid; simp
  have HR := Lib.hid (h.q q0)
  have HC := Lib.hid hC
  clear h hC
  have hd : (decide (0 ≤ (m : Int)) && decide ((m : Int) < (c.V.length : Int))) = true := by rw [decide_eq_true (show (0 : Int) ≤ (m : Int) by omega), decide_eq_true (show (m : Int) < (c.V.length : Int) by omega)]; rfl
  go_enter Try.func17, Try.ntmps17
  go_upto_region 1 with fail
  generalize (w.alloc (Obj.cells #[Value.slice A c.V.length k1, Value.slice D c.N.length k2, Value.slice E c.M.length k3] 25)).alloc (Obj.cells #[.int .i64 (m : Int)] 3) = W0 at *
  have b0 := HB.out.c0
  have b1 := HB.out.c1
  have b2 := HB.out.c2
  have nb := HN.out
  have C := Lib.hid (allFirst_any R c A D E _ k1 _ k2 _ k3 W0 rfl rfl rfl HR.out HC.out hl)
  go_upto_region 4 with (first
    | (go_at_call 27; refine (placeU _ _ _).mono ?_; rintro e w2 ⟨rfl, rfl⟩; rw [hd])
    | (go_at_call 34; refine C.out.mono ?_; rintro e w2 ⟨A2, k, rfl, hk, hr, q2⟩; have HRr := Lib.hid hr; clear hr))
  have qb := (Q.refl w2).alloc (Obj.cells #[Value.slice A2 (firstRow c.V).length k] 22)
  have x0 : (w2.alloc (Obj.cells #[Value.slice A2 (firstRow c.V).length k] 22)).cell? ⟨w2.heap.size, 0, none⟩ = some (Value.slice A2 (firstRow c.V).length k) := by simp
  have nb2 := ((q2.trans qb).cell (p := ⟨w.heap.size + 1, 0, none⟩) (by show w.heap.size + 1 < _; rw [HZ.out]; omega)).trans nb
  have HRr2 := Lib.hid (HRr.out.q qb)
  have hz : w2.heap.size < (w2.alloc (Obj.cells #[Value.slice A2 (firstRow c.V).length k] 22)).heap.size := by simp
  have hz1 : w.heap.size + 1 < (w2.alloc (Obj.cells #[Value.slice A2 (firstRow c.V).length k] 22)).heap.size := by have := (q2.trans qb).size; have := HZ.out; omega
  have Hq := Lib.hid ((q0.trans q2).trans qb)
  clear b0 b1 b2 nb C HRr q2 qb
  generalize w2.alloc (Obj.cells #[Value.slice A2 (firstRow c.V).length k] 22) = W2 at *
  generalize w2.heap.size = B at *
  have C := Lib.hid (thoseC B (w.heap.size + 1) c.V.length (fun x => fst c.V x == fst c.V m) W2 hl (fun x W hx q => class1_any c.V A2 _ B (w.heap.size + 1) k x m W rfl ((q.cell (p := ⟨B, 0, none⟩) hz).trans x0) ((q.cell (p := ⟨w.heap.size + 1, 0, none⟩) hz1).trans nb2) (HRr2.out.q q) hx hm))
  rw [firstRow_len] at x0
  go_wp2_with (go_at_call 32; refine C.out.mono ?_; rintro e w3 ⟨A3, k3, rfl, hk3, hr, q3⟩)
  go_ret
  exact ⟨A3, k3, rfl, hk3, hr, Hq.out.trans q3⟩
end Go.Proofs.Ytodmompfnlcjpaa.Uf
