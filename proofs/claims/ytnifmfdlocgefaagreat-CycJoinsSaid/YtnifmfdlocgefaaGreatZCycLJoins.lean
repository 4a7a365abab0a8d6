/-
  CycJoins holds.
-/
import Derived.Test.YtnifmfdlocgefaaGreatPf
import Derived.Test.YtnifmfdlocgefaaGreatPh
import Derived.Test.YtnifmfdlocgefaaGreatPj
import Derived.Test.YtnifmfdlocgefaaGreatPq
import Derived.Test.YtnifmfdlocgefaaGreatPr
import Derived.Test.YtnifmfdlocgefaaGreatPs
import Derived.Test.YtnifmfdlocgefaaGreatRows
import Derived.OpenShut
import Derived.RegionTactic
import Derived.Deep.CutBlock
import Derived.Test.YtnifmfdlocgefaaGreatCycFJoins
namespace Go.Proofs.YtnifmfdlocgefaaGreat.cycJoins
open Go.Proofs.YtnifmfdlocgefaaGreat.Cy
open Go.ChangeShapes Go.WideShapes Go.ChangeAt Go.RowKit Kit Rw Ex Ig Tr Uf
open Go.Proofs.YtnifmfdlocgefaaGreat.Sg (Sig Row Sized)
open Go.Proofs.YtnifmfdlocgefaaGreat.Hs (Ints Keys BoxT layI)
/-- a row of variables that are there -/
theorem there_row {m : Nat} : ∀ {l : List Int}, 0 < l.length → thereL m l = true → ∃ (x : Nat) (ys : List Nat), l = (x :: ys).map (fun (n : Nat) => (n : Int)) ∧ x < m ∧ ∀ y ∈ ys, y < m
  | [], h, _ => absurd h (by simp)
  | z :: l, _, h => by
    have hall : ∀ u ∈ z :: l, 0 ≤ u ∧ u < (m : Int) := fun u hu => by
      have := List.all_eq_true.1 h u hu
      simpa using this
    refine ⟨z.toNat, l.map Int.toNat, ?_, by have := hall z (List.mem_cons_self ..); omega, fun y hy => ?_⟩
    · rw [List.map_cons, List.map_map]
      have h1 : ((z.toNat : Nat) : Int) = z := Int.toNat_of_nonneg (hall z (List.mem_cons_self ..)).1
      have h2 : l.map ((fun (n : Nat) => (n : Int)) ∘ Int.toNat) = l := by
        conv => rhs; rw [← List.map_id l]
        exact List.map_congr_left fun u hu => Int.toNat_of_nonneg (hall u (List.mem_cons_of_mem _ hu)).1
      rw [h1, h2]
    · obtain ⟨u, hu, rfl⟩ := List.mem_map.1 hy
      have := hall u (List.mem_cons_of_mem _ hu)
      omega
set_option maxRecDepth 100000 in
set_option maxHeartbeats 16000000 in
theorem walk (L0 A S F Av D E Pa Ta : Option Addr) (nl cl n ca m d cr k1 k2 k3 kp kt : Nat) (l : List Sig) (ks : List (List Int)) (sl : List Int) (R : List Int) (c : Cells) (P T : List (List Int)) (B : Option Addr) (nq eq : Nat) (r : List Int) (w : World) (hnl : nl = l.length) (hr : Row w w.heap.size L0 l) (hll : l.length ≤ maxLen) (hsz : Sized l) (hn : n = ks.length) (hm : m = sl.length) (hk : Keys w w.heap.size A ks) (hSi : Ints w w.heap.size S sl) (hl : ks.length ≤ 1152921504606846976) (hs : ∀ k ∈ ks, k.length ≤ 1152921504606846976) (hsl : sl.length ≤ 1152921504606846976) (hG : GArg w R c P T F Av D E Pa Ta k1 k2 k3) (hq : nq = r.length) (hB : Ints w w.heap.size B r) (hr9 : r.length ≤ 1152921504606846976) (hqe : nq ≤ eq) :
    Calls Tryz.prog 4 #[.agg #[.slice L0 nl cl, .slice A n ca, .slice S m d, .slice F R.length cr, .slice Av c.V.length k1, .slice D c.N.length k2, .slice E c.M.length k3, .slice Pa P.length kp, .slice Ta T.length kt, .slice B nq eq]] w fun e w' => e = .returned (.bool true) ∧ Q w w' := by
  subst hq
  subst hnl hn hm
  have HQ0 := Lib.hid ((((Q.refl w).alloc (Obj.cells #[.slice L0 l.length cl, .slice A ks.length ca, .slice S sl.length d, .slice F R.length cr, .slice Av c.V.length k1, .slice D c.N.length k2, .slice E c.M.length k3, .slice Pa P.length kp, .slice Ta T.length kt, .slice B r.length eq] 47)).alloc (Obj.cells #[Value.slice A ks.length ca, Value.slice S sl.length d] 26)).alloc (Obj.cells #[.slice F R.length cr, .slice Av c.V.length k1, .slice D c.N.length k2, .slice E c.M.length k3, .slice Pa P.length kp, .slice Ta T.length kt] 31))
  have HX := Lib.hid (own_new8 w [.slice L0 l.length cl, .slice A ks.length ca, .slice S sl.length d, .slice F R.length cr, .slice Av c.V.length k1, .slice D c.N.length k2, .slice E c.M.length k3, .slice Pa P.length kp, .slice Ta T.length kt, .slice B r.length eq] 47)
  have HT := Lib.hid ((BoxT.new (w.alloc (Obj.cells #[.slice L0 l.length cl, .slice A ks.length ca, .slice S sl.length d, .slice F R.length cr, .slice Av c.V.length k1, .slice D c.N.length k2, .slice E c.M.length k3, .slice Pa P.length kp, .slice Ta T.length kt, .slice B r.length eq] 47)) (Value.slice A ks.length ca) (Value.slice S sl.length d) 26).q ((Q.refl _).alloc (Obj.cells #[.slice F R.length cr, .slice Av c.V.length k1, .slice D c.N.length k2, .slice E c.M.length k3, .slice Pa P.length kp, .slice Ta T.length kt] 31)))
  have HG6 := Lib.hid (Box6.new ((w.alloc (Obj.cells #[.slice L0 l.length cl, .slice A ks.length ca, .slice S sl.length d, .slice F R.length cr, .slice Av c.V.length k1, .slice D c.N.length k2, .slice E c.M.length k3, .slice Pa P.length kp, .slice Ta T.length kt, .slice B r.length eq] 47)).alloc (Obj.cells #[Value.slice A ks.length ca, Value.slice S sl.length d] 26)) (.slice F R.length cr) (.slice Av c.V.length k1) (.slice D c.N.length k2) (.slice E c.M.length k3) (.slice Pa P.length kp) (.slice Ta T.length kt) 31)
  have HRow := Lib.hid hr
  have HKy := Lib.hid hk
  have HSl := Lib.hid hSi
  have HGa := Lib.hid hG
  have CF := Lib.hid (fun (U : World) (p : Q w U) => of13_any L0 A S F Av D E Pa Ta l.length cl ks.length ca sl.length d R.length cr c.V.length k1 c.N.length k2 c.M.length k3 P.length kp T.length kt l ks sl R c P T U rfl ((hr.q (Nat.le_refl _) p).more p.size) rfl rfl ((hk.q (Nat.le_refl _) p).more p.size) ((hSi.q (Nat.le_refl _) p).more p.size) hll hsz hl hs hsl rfl rfl rfl rfl rfl rfl ((hG.r.q p)) (hG.u.q p) ((hG.p.q (Nat.le_refl _) p).more p.size) ((hG.t.q (Nat.le_refl _) p).more p.size) hG.lR hG.lU.1 hG.lU.2.1 hG.lU.2.2 hG.lP hG.lT hG.sP hG.sT)
  clear hr hll hsz hk hSi hl hs hsl hG
  have HBr := Lib.hid (ints_rds hB)
  have CT : Hid (∀ U, Q w U → Calls Tryz.prog 16 #[.agg #[.slice F R.length cr, .slice Av c.V.length k1, .slice D c.N.length k2, .slice E c.M.length k3, .slice Pa P.length kp, .slice Ta T.length kt], .slice B r.length eq] U fun e w' => e = .returned (.bool (thereL c.V.length r)) ∧ Q U w') := fun U q => refThere13_any r B Av r.length eq c.V.length k1 _ _ _ _ _ U rfl (HBr.out.q q) (by omega)
  clear hB
  cases hof : of13B l ks sl R c P T
  · rw [hof] at CF
    clear hof HKy HSl HGa HRow CT HBr
    go_enter Tryz.func4, Tryz.ntmps4
    go_upto_region 1 with fail
    generalize hW : w.alloc (Obj.cells #[.slice L0 l.length cl, .slice A ks.length ca, .slice S sl.length d, .slice F R.length cr, .slice Av c.V.length k1, .slice D c.N.length k2, .slice E c.M.length k3, .slice Pa P.length kp, .slice Ta T.length kt, .slice B r.length eq] 47) = W at *
    clear hW
    have x0 := (HX.out.2 0 _ rfl).1
    have x1 := (HX.out.2 1 _ rfl).1
    have x2 := (HX.out.2 2 _ rfl).1
    have HX2 := Lib.hid (HX.out.q ((Q.refl W).alloc (Obj.cells #[Value.slice A ks.length ca, Value.slice S sl.length d] 26)))
    go_upto_region 3 with fail
    generalize hV : W.alloc (Obj.cells #[Value.slice A ks.length ca, Value.slice S sl.length d] 26) = V at *
    clear hV x0 x1 x2
    have x3 := (HX2.out.2 3 _ rfl).1
    have x4 := (HX2.out.2 4 _ rfl).1
    have x5 := (HX2.out.2 5 _ rfl).1
    have x6 := (HX2.out.2 6 _ rfl).1
    have x7 := (HX2.out.2 7 _ rfl).1
    have x8 := (HX2.out.2 8 _ rfl).1
    have HX3 := Lib.hid (HX2.out.q ((Q.refl V).alloc (Obj.cells #[.slice F R.length cr, .slice Av c.V.length k1, .slice D c.N.length k2, .slice E c.M.length k3, .slice Pa P.length kp, .slice Ta T.length kt] 31)))
    go_upto_region 4 with fail
    generalize hU : V.alloc (Obj.cells #[.slice F R.length cr, .slice Av c.V.length k1, .slice D c.N.length k2, .slice E c.M.length k3, .slice Pa P.length kp, .slice Ta T.length kt] 31) = U at *
    clear hU x3 x4 x5 x6 x7 x8
    have x9 := (HX3.out.2 9 _ rfl).1
    go_upto_region 5 with fail
    clear x9
    have ALL : Hid (∀ U', Q U U' → U'.cell? ⟨W.heap.size, 0, none⟩ = some (.slice A ks.length ca) ∧ U'.cell? ⟨W.heap.size, 1, none⟩ = some (.slice S sl.length d) ∧ U'.cell? ⟨V.heap.size, 0, none⟩ = some (.slice F R.length cr) ∧ U'.cell? ⟨V.heap.size, 1, none⟩ = some (.slice Av c.V.length k1) ∧ U'.cell? ⟨V.heap.size, 2, none⟩ = some (.slice D c.N.length k2) ∧ U'.cell? ⟨V.heap.size, 3, none⟩ = some (.slice E c.M.length k3) ∧ U'.cell? ⟨V.heap.size, 4, none⟩ = some (.slice Pa P.length kp) ∧ U'.cell? ⟨V.heap.size, 5, none⟩ = some (.slice Ta T.length kt)) := fun U' q => by
      have h1 := HT.out.q q
      have h2 := HG6.out.q q
      exact ⟨h1.c0, h1.c1, h2.c0, h2.c1, h2.c2, h2.c3, h2.c4, h2.c5⟩
    obtain ⟨s0, s1, s2, s3, s4, s5, s6, s7⟩ := ALL.out U (Q.refl _)
    have HQ1 : Hid (Q U U) := Lib.hid (Q.refl _)
    go_wp2_with (first
      | (go_at_call 14; (with_reducible refine (shown13_any U).mono ?_); rintro e w2 ⟨rfl, q1⟩; have HQ2 := Lib.hid (HQ1.out.trans q1); clear s0 s1 s2 s3 s4 s5 s6 s7 q1; obtain ⟨s0, s1, s2, s3, s4, s5, s6, s7⟩ := ALL.out w2 HQ2.out)
      | (go_at_call 15; (with_reducible refine (CF.out w2 (HQ0.out.trans HQ2.out)).mono ?_); rintro e w3 ⟨rfl, q2⟩; have HQ3 := Lib.hid (HQ2.out.trans q2); clear s0 s1 s2 s3 s4 s5 s6 s7 q2; obtain ⟨s0, s1, s2, s3, s4, s5, s6, s7⟩ := ALL.out w3 HQ3.out)
      | fail)
    go_ret
    exact ⟨rfl, HQ0.out.trans HQ3.out⟩
  · rw [hof] at CF
    by_cases h0 : r.length = 0
    · have e0 : ((r.length : Int) == 0) = true := by rw [h0]; rfl
      clear hof h0 HKy HSl HGa HRow CT HBr
      go_enter Tryz.func4, Tryz.ntmps4
      go_upto_region 1 with fail
      generalize hW : w.alloc (Obj.cells #[.slice L0 l.length cl, .slice A ks.length ca, .slice S sl.length d, .slice F R.length cr, .slice Av c.V.length k1, .slice D c.N.length k2, .slice E c.M.length k3, .slice Pa P.length kp, .slice Ta T.length kt, .slice B r.length eq] 47) = W at *
      clear hW
      have x0 := (HX.out.2 0 _ rfl).1
      have x1 := (HX.out.2 1 _ rfl).1
      have x2 := (HX.out.2 2 _ rfl).1
      have HX2 := Lib.hid (HX.out.q ((Q.refl W).alloc (Obj.cells #[Value.slice A ks.length ca, Value.slice S sl.length d] 26)))
      go_upto_region 3 with fail
      generalize hV : W.alloc (Obj.cells #[Value.slice A ks.length ca, Value.slice S sl.length d] 26) = V at *
      clear hV x0 x1 x2
      have x3 := (HX2.out.2 3 _ rfl).1
      have x4 := (HX2.out.2 4 _ rfl).1
      have x5 := (HX2.out.2 5 _ rfl).1
      have x6 := (HX2.out.2 6 _ rfl).1
      have x7 := (HX2.out.2 7 _ rfl).1
      have x8 := (HX2.out.2 8 _ rfl).1
      have HX3 := Lib.hid (HX2.out.q ((Q.refl V).alloc (Obj.cells #[.slice F R.length cr, .slice Av c.V.length k1, .slice D c.N.length k2, .slice E c.M.length k3, .slice Pa P.length kp, .slice Ta T.length kt] 31)))
      go_upto_region 4 with fail
      generalize hU : V.alloc (Obj.cells #[.slice F R.length cr, .slice Av c.V.length k1, .slice D c.N.length k2, .slice E c.M.length k3, .slice Pa P.length kp, .slice Ta T.length kt] 31) = U at *
      clear hU x3 x4 x5 x6 x7 x8
      have x9 := (HX3.out.2 9 _ rfl).1
      go_upto_region 5 with fail
      clear x9
      have ALL : Hid (∀ U', Q U U' → U'.cell? ⟨W.heap.size, 0, none⟩ = some (.slice A ks.length ca) ∧ U'.cell? ⟨W.heap.size, 1, none⟩ = some (.slice S sl.length d) ∧ U'.cell? ⟨V.heap.size, 0, none⟩ = some (.slice F R.length cr) ∧ U'.cell? ⟨V.heap.size, 1, none⟩ = some (.slice Av c.V.length k1) ∧ U'.cell? ⟨V.heap.size, 2, none⟩ = some (.slice D c.N.length k2) ∧ U'.cell? ⟨V.heap.size, 3, none⟩ = some (.slice E c.M.length k3) ∧ U'.cell? ⟨V.heap.size, 4, none⟩ = some (.slice Pa P.length kp) ∧ U'.cell? ⟨V.heap.size, 5, none⟩ = some (.slice Ta T.length kt)) := fun U' q => by
        have h1 := HT.out.q q
        have h2 := HG6.out.q q
        exact ⟨h1.c0, h1.c1, h2.c0, h2.c1, h2.c2, h2.c3, h2.c4, h2.c5⟩
      obtain ⟨s0, s1, s2, s3, s4, s5, s6, s7⟩ := ALL.out U (Q.refl _)
      have HQ1 : Hid (Q U U) := Lib.hid (Q.refl _)
      go_wp2_with (first
        | (go_at_call 14; (with_reducible refine (shown13_any U).mono ?_); rintro e w2 ⟨rfl, q1⟩; have HQ2 := Lib.hid (HQ1.out.trans q1); clear s0 s1 s2 s3 s4 s5 s6 s7 q1; obtain ⟨s0, s1, s2, s3, s4, s5, s6, s7⟩ := ALL.out w2 HQ2.out)
        | (go_at_call 15; (with_reducible refine (CF.out w2 (HQ0.out.trans HQ2.out)).mono ?_); rintro e w3 ⟨rfl, q2⟩; have HQ3 := Lib.hid (HQ2.out.trans q2); clear s0 s1 s2 s3 s4 s5 s6 s7 q2; obtain ⟨s0, s1, s2, s3, s4, s5, s6, s7⟩ := ALL.out w3 HQ3.out)
        | fail)
      go_ret
      exact ⟨rfl, HQ0.out.trans HQ3.out⟩
    · have e0 : ((r.length : Int) == 0) = false := beq_eq_false_iff_ne.2 (by omega)
      by_cases h40 : 40 < r.length
      · have e1 : decide ((40 : Int) < (r.length : Int)) = true := decide_eq_true (by omega)
        have e1n : decide (40 < r.length) = true := decide_eq_true h40
        clear hof h0 h40 HKy HSl HGa HRow CT HBr
        go_enter Tryz.func4, Tryz.ntmps4
        go_upto_region 1 with fail
        generalize hW : w.alloc (Obj.cells #[.slice L0 l.length cl, .slice A ks.length ca, .slice S sl.length d, .slice F R.length cr, .slice Av c.V.length k1, .slice D c.N.length k2, .slice E c.M.length k3, .slice Pa P.length kp, .slice Ta T.length kt, .slice B r.length eq] 47) = W at *
        clear hW
        have x0 := (HX.out.2 0 _ rfl).1
        have x1 := (HX.out.2 1 _ rfl).1
        have x2 := (HX.out.2 2 _ rfl).1
        have HX2 := Lib.hid (HX.out.q ((Q.refl W).alloc (Obj.cells #[Value.slice A ks.length ca, Value.slice S sl.length d] 26)))
        go_upto_region 3 with fail
        generalize hV : W.alloc (Obj.cells #[Value.slice A ks.length ca, Value.slice S sl.length d] 26) = V at *
        clear hV x0 x1 x2
        have x3 := (HX2.out.2 3 _ rfl).1
        have x4 := (HX2.out.2 4 _ rfl).1
        have x5 := (HX2.out.2 5 _ rfl).1
        have x6 := (HX2.out.2 6 _ rfl).1
        have x7 := (HX2.out.2 7 _ rfl).1
        have x8 := (HX2.out.2 8 _ rfl).1
        have HX3 := Lib.hid (HX2.out.q ((Q.refl V).alloc (Obj.cells #[.slice F R.length cr, .slice Av c.V.length k1, .slice D c.N.length k2, .slice E c.M.length k3, .slice Pa P.length kp, .slice Ta T.length kt] 31)))
        go_upto_region 4 with fail
        generalize hU : V.alloc (Obj.cells #[.slice F R.length cr, .slice Av c.V.length k1, .slice D c.N.length k2, .slice E c.M.length k3, .slice Pa P.length kp, .slice Ta T.length kt] 31) = U at *
        clear hU x3 x4 x5 x6 x7 x8
        have x9 := (HX3.out.2 9 _ rfl).1
        go_upto_region 5 with fail
        clear x9
        have ALL : Hid (∀ U', Q U U' → U'.cell? ⟨W.heap.size, 0, none⟩ = some (.slice A ks.length ca) ∧ U'.cell? ⟨W.heap.size, 1, none⟩ = some (.slice S sl.length d) ∧ U'.cell? ⟨V.heap.size, 0, none⟩ = some (.slice F R.length cr) ∧ U'.cell? ⟨V.heap.size, 1, none⟩ = some (.slice Av c.V.length k1) ∧ U'.cell? ⟨V.heap.size, 2, none⟩ = some (.slice D c.N.length k2) ∧ U'.cell? ⟨V.heap.size, 3, none⟩ = some (.slice E c.M.length k3) ∧ U'.cell? ⟨V.heap.size, 4, none⟩ = some (.slice Pa P.length kp) ∧ U'.cell? ⟨V.heap.size, 5, none⟩ = some (.slice Ta T.length kt)) := fun U' q => by
          have h1 := HT.out.q q
          have h2 := HG6.out.q q
          exact ⟨h1.c0, h1.c1, h2.c0, h2.c1, h2.c2, h2.c3, h2.c4, h2.c5⟩
        obtain ⟨s0, s1, s2, s3, s4, s5, s6, s7⟩ := ALL.out U (Q.refl _)
        have HQ1 : Hid (Q U U) := Lib.hid (Q.refl _)
        go_wp2_with (first
          | (go_at_call 14; (with_reducible refine (shown13_any U).mono ?_); rintro e w2 ⟨rfl, q1⟩; have HQ2 := Lib.hid (HQ1.out.trans q1); clear s0 s1 s2 s3 s4 s5 s6 s7 q1; obtain ⟨s0, s1, s2, s3, s4, s5, s6, s7⟩ := ALL.out w2 HQ2.out)
          | (go_at_call 15; (with_reducible refine (CF.out w2 (HQ0.out.trans HQ2.out)).mono ?_); rintro e w3 ⟨rfl, q2⟩; have HQ3 := Lib.hid (HQ2.out.trans q2); clear s0 s1 s2 s3 s4 s5 s6 s7 q2; obtain ⟨s0, s1, s2, s3, s4, s5, s6, s7⟩ := ALL.out w3 HQ3.out)
          | fail)
        go_ret
        exact ⟨rfl, HQ0.out.trans HQ3.out⟩
      · have e1 : decide ((40 : Int) < (r.length : Int)) = false := decide_eq_false (by omega)
        have e1n : decide (40 < r.length) = false := decide_eq_false h40
        cases hth : thereL c.V.length r
        · rw [hth] at CT
          clear hof h0 h40 hth HKy HSl HGa HRow HBr
          go_enter Tryz.func4, Tryz.ntmps4
          go_upto_region 1 with fail
          generalize hW : w.alloc (Obj.cells #[.slice L0 l.length cl, .slice A ks.length ca, .slice S sl.length d, .slice F R.length cr, .slice Av c.V.length k1, .slice D c.N.length k2, .slice E c.M.length k3, .slice Pa P.length kp, .slice Ta T.length kt, .slice B r.length eq] 47) = W at *
          clear hW
          have x0 := (HX.out.2 0 _ rfl).1
          have x1 := (HX.out.2 1 _ rfl).1
          have x2 := (HX.out.2 2 _ rfl).1
          have HX2 := Lib.hid (HX.out.q ((Q.refl W).alloc (Obj.cells #[Value.slice A ks.length ca, Value.slice S sl.length d] 26)))
          go_upto_region 3 with fail
          generalize hV : W.alloc (Obj.cells #[Value.slice A ks.length ca, Value.slice S sl.length d] 26) = V at *
          clear hV x0 x1 x2
          have x3 := (HX2.out.2 3 _ rfl).1
          have x4 := (HX2.out.2 4 _ rfl).1
          have x5 := (HX2.out.2 5 _ rfl).1
          have x6 := (HX2.out.2 6 _ rfl).1
          have x7 := (HX2.out.2 7 _ rfl).1
          have x8 := (HX2.out.2 8 _ rfl).1
          have HX3 := Lib.hid (HX2.out.q ((Q.refl V).alloc (Obj.cells #[.slice F R.length cr, .slice Av c.V.length k1, .slice D c.N.length k2, .slice E c.M.length k3, .slice Pa P.length kp, .slice Ta T.length kt] 31)))
          go_upto_region 4 with fail
          generalize hU : V.alloc (Obj.cells #[.slice F R.length cr, .slice Av c.V.length k1, .slice D c.N.length k2, .slice E c.M.length k3, .slice Pa P.length kp, .slice Ta T.length kt] 31) = U at *
          clear hU x3 x4 x5 x6 x7 x8
          have x9 := (HX3.out.2 9 _ rfl).1
          go_upto_region 5 with fail
          clear x9
          have ALL : Hid (∀ U', Q U U' → U'.cell? ⟨W.heap.size, 0, none⟩ = some (.slice A ks.length ca) ∧ U'.cell? ⟨W.heap.size, 1, none⟩ = some (.slice S sl.length d) ∧ U'.cell? ⟨V.heap.size, 0, none⟩ = some (.slice F R.length cr) ∧ U'.cell? ⟨V.heap.size, 1, none⟩ = some (.slice Av c.V.length k1) ∧ U'.cell? ⟨V.heap.size, 2, none⟩ = some (.slice D c.N.length k2) ∧ U'.cell? ⟨V.heap.size, 3, none⟩ = some (.slice E c.M.length k3) ∧ U'.cell? ⟨V.heap.size, 4, none⟩ = some (.slice Pa P.length kp) ∧ U'.cell? ⟨V.heap.size, 5, none⟩ = some (.slice Ta T.length kt)) := fun U' q => by
            have h1 := HT.out.q q
            have h2 := HG6.out.q q
            exact ⟨h1.c0, h1.c1, h2.c0, h2.c1, h2.c2, h2.c3, h2.c4, h2.c5⟩
          obtain ⟨s0, s1, s2, s3, s4, s5, s6, s7⟩ := ALL.out U (Q.refl _)
          have HQ1 : Hid (Q U U) := Lib.hid (Q.refl _)
          go_wp2_with (first
            | (go_at_call 14; (with_reducible refine (shown13_any U).mono ?_); rintro e w2 ⟨rfl, q1⟩; have HQ2 := Lib.hid (HQ1.out.trans q1); clear s0 s1 s2 s3 s4 s5 s6 s7 q1; obtain ⟨s0, s1, s2, s3, s4, s5, s6, s7⟩ := ALL.out w2 HQ2.out)
            | (go_at_call 15; (with_reducible refine (CF.out w2 (HQ0.out.trans HQ2.out)).mono ?_); rintro e w3 ⟨rfl, q2⟩; have HQ3 := Lib.hid (HQ2.out.trans q2); clear s0 s1 s2 s3 s4 s5 s6 s7 q2; obtain ⟨s0, s1, s2, s3, s4, s5, s6, s7⟩ := ALL.out w3 HQ3.out)
            | (go_at_call 16; (with_reducible refine (CT.out w3 (HQ0.out.trans HQ3.out)).mono ?_); rintro e w4 ⟨rfl, q3⟩; have HQ4 := Lib.hid (HQ3.out.trans q3); clear s0 s1 s2 s3 s4 s5 s6 s7 q3; obtain ⟨s0, s1, s2, s3, s4, s5, s6, s7⟩ := ALL.out w4 HQ4.out)
            | fail)
          go_ret
          exact ⟨rfl, HQ0.out.trans HQ4.out⟩
        · rw [hth] at CT
          obtain ⟨h12, hv40⟩ := of13_12 hof
          obtain ⟨hO, hsl, hfew, hC, hp, ht, g6, hA⟩ := of12_plain h12
          clear hof h12
          obtain ⟨x, ys, hrow, hx, hys⟩ : ∃ (x : Nat) (ys : List Nat), r = (x :: ys).map (fun (n : Nat) => (n : Int)) ∧ x < c.V.length ∧ ∀ y ∈ ys, y < c.V.length := there_row (by omega) hth
          have hyl : ys.length + 1 = r.length := by rw [hrow]; simp
          have hJ : OkJ R c.V.length 1000 1000 0 ⟨c, P, T, []⟩ := ⟨hC, rfl, hp, ht, hfew.2.1, hfew.2.2.2.2.1, hfew.2.2.2.2.2, by simp⟩
          obtain ⟨c2, P2, T2, l2, hGe⟩ : ∃ c2 P2 T2 l2, joinJ R ks x ys ⟨c, P, T, []⟩ = ⟨c2, P2, T2, l2⟩ := ⟨_, _, _, _, rfl⟩
          have hJ2 := OkJ.joins (ks := ks) hx ys 0 _ hJ hys
          have hF2 := (joins_fst (ks := ks) hx ys 0 _ hJ hys).1
          rw [hGe] at hJ2 hF2
          have hJ3 : OkJ R c.V.length (1000 + ys.length) 1000 0 ⟨c2, P2, T2, []⟩ := ⟨hJ2.cl, hJ2.len, hJ2.lp, hJ2.lt, by have := hJ2.few; simpa using this, hJ2.sp, hJ2.st, by simp⟩
          have hys40 : ys.length ≤ 40 := by omega
          have CJ : Hid (∀ U, Q w U → Calls Tryz.prog 17 #[.agg #[.slice A ks.length ca, .slice S sl.length d], .agg #[.slice F R.length cr, .slice Av c.V.length k1, .slice D c.N.length k2, .slice E c.M.length k3, .slice Pa P.length kp, .slice Ta T.length kt], .slice B r.length eq] U (OneAns R c2 P2 T2 l2 U)) := fun U q => by
            have h := join13p_any R c P T ks A S F Av D E Pa Ta B ca d cr k1 k2 k3 kp kt eq c.V.length 1000 1000 x ys U ((HKy.out.q (Nat.le_refl _) q).more q.size) (by rw [← hsl]; exact (HSl.out.q (Nat.le_refl _) q).more q.size) hO hA (HGa.out.r.q q) (HGa.out.u.q q) ((HGa.out.p.q (Nat.le_refl _) q).more q.size) ((HGa.out.t.q (Nat.le_refl _) q).more q.size) hJ hfew.1 (by omega) (by omega) hys40 hx hys (by rw [← hrow]; exact HBr.out.q q)
            rw [← hsl, hyl, hGe] at h
            exact h
          have hf2 : Few c2 (1000 + (0 + ys.length)) := hJ2.few
          have HHF : Hid (R.length ≤ 1000 ∧ Few c2 1100 ∧ P2.length ≤ 1000 ∧ T2.length ≤ 1000 ∧ (∀ k ∈ P2, k.length ≤ 1000) ∧ (∀ k ∈ T2, k.length ≤ 1000)) := ⟨hfew.1, ⟨by have := hf2.1; omega, by have := hf2.2.1; omega, by have := hf2.2.2; omega⟩, by have := hJ2.lp; dsimp only at this; omega, by have := hJ2.lt; dsimp only at this; omega, hJ2.sp, hJ2.st⟩
          obtain ⟨rad, hrad, hrb, hrc⟩ := HBr.out (by rw [hrow]; simp [Tr.cellsI])
          have HPC : Hid (∀ (i z : Nat), (x :: ys)[i]? = some z → ∀ U, Q w U → U.cell? (rad.add i) = some (.int .i64 (z : Int))) := fun i z hz U q => (q.cell (by rw [Tr.add_block]; exact hrb)).trans (hrc i _ (by rw [hrow]; unfold Tr.cellsI; rw [List.getElem?_map, List.getElem?_map, hz]; rfl))
          have hRt := right_joinJ (ks := ks) hx ys 0 _ hJ hys g6
          rw [hGe] at hRt
          dsimp only at hRt
          obtain ⟨f, hf⟩ : ∃ f, f = fst c2.V x := ⟨_, rfl⟩
          have hlen : c2.V.length = c.V.length := hJ2.len
          have hcl2 : Cl R c2.V := hJ2.cl
          have hmem : ∀ z ∈ x :: ys, z < c.V.length := fun z hz => by
            rcases List.mem_cons.1 hz with rfl | hz
            · exact hx
            · exact hys z hz
          have hall : ∀ z ∈ x :: ys, fst c2.V z = f := fun z hz => by
            rw [hf]
            rcases List.mem_cons.1 hz with rfl | hz
            · rfl
            · exact hF2 z (hys z hz) (.inl hz)
          have hown : (x :: ys).any (fun z => fst c.V z == f) = true := by
            obtain ⟨z, hz, e⟩ := (joins_fst (ks := ks) hx ys 0 _ hJ hys).2
            rw [hGe] at e
            rw [List.any_eq_true]
            exact ⟨z, List.mem_cons.2 hz, beq_iff_eq.2 (by rw [hf]; exact e.symm)⟩
          have CF2 : Hid (∀ (z : Nat) (U : World) (A4 D4 E4 : Option Addr) (l41 l42 l43 : Nat), z ∈ x :: ys → Tr.Rds U U.heap.size A4 (Tr.cellsI c2.V) → Calls Tryz.prog 27 #[.agg #[.slice A4 c2.V.length l41, .slice D4 c2.N.length l42, .slice E4 c2.M.length l43], .int .i64 (z : Int)] U fun e w' => e = .returned (.int .i64 (f : Int)) ∧ Q U w') := fun z U A4 D4 E4 l41 l42 l43 hz hv => by
            have h := refFind_any R c2.V z A4 _ l41 (.slice D4 c2.N.length l42) (.slice E4 c2.M.length l43) U rfl hv hcl2 (by rw [hlen]; exact hmem z hz) (by omega)
            rwa [hall z hz] at h
          have CF1 : Hid (∀ (z : Nat) (U : World), z ∈ x :: ys → Q w U → Calls Tryz.prog 27 #[.agg #[.slice Av c.V.length k1, .slice D c.N.length k2, .slice E c.M.length k3], .int .i64 (z : Int)] U fun e w' => e = .returned (.int .i64 (fst c.V z : Int)) ∧ Q U w') := fun z U hz q => refFind_any R c.V z Av _ k1 _ _ U rfl (HGa.out.u.q q).v hC (hmem z hz) (by omega)
          have CR : Hid (∀ (U : World) (F4 A4 D4 E4 P4 T4 : Option Addr) (cr4 l41 l42 l43 lp4 lt4 : Nat), Q w U → GRP U (fun b => w.heap.size ≤ b) R c2 P2 T2 F4 A4 D4 E4 P4 T4 cr4 l41 l42 l43 lp4 lt4 → Calls Tryz.prog 26 #[.agg #[.slice A ks.length ca, .slice S sl.length d], .agg #[.slice F4 R.length cr4, .slice A4 c2.V.length l41, .slice D4 c2.N.length l42, .slice E4 c2.M.length l43, .slice P4 P2.length lp4, .slice T4 T2.length lt4]] U fun e w' => e = .returned (.bool true) ∧ Q U w') := fun U F4 A4 D4 E4 P4 T4 cr4 l41 l42 l43 lp4 lt4 q hG => by
            have h := refRightG_any R c2 A S F4 A4 D4 E4 P4 T4 _ ca sl.length d _ cr4 _ l41 _ l42 _ l43 _ lp4 _ lt4 ks P2 T2 U rfl ((HKy.out.q (Nat.le_refl _) q).more q.size) rfl hG.r.rds rfl rfl rfl hG.rd ⟨by have := HHF.out.2.1.1; omega, by have := HHF.out.2.1.2.1; omega, by have := HHF.out.2.1.2.2; omega⟩ rfl hG.p.keys rfl hG.t.keys (fun k hk => by have := HHF.out.2.2.2.2.1 k hk; omega) (fun k hk => by have := HHF.out.2.2.2.2.2 k hk; omega)
            rw [hRt] at h
            exact h
          have hrl : r.length = (x :: ys).length := by rw [hrow, List.length_map]
          have Hrl := Lib.hid hrl
          have HRl : Hid (r.length ≤ 40) := by unfold Hid; omega
          have HX0 : Hid ((x :: ys)[0]? = some x) := Lib.hid rfl
          obtain ⟨Y, hY⟩ : ∃ Y, Y = x :: ys := ⟨_, rfl⟩
          rw [← hY] at hown CF2 CF1 HPC Hrl HX0
          have Hown := Lib.hid hown
          have d7 : ((c2.V.length : Int) != (c.V.length : Int)) = false := by rw [hlen]; simp
          have j2 : (0 : Int) < (r.length : Int) := by omega
          have j2n : 0 < r.length := by omega
          subst hrad
          clear hf2 hO hsl hfew hC hp ht g6 hA hrow hx hys hJ hJ2 hJ3 hF2 hGe hys40 hv40 HKy HSl HRow HBr hth hqe hr9 hrb hrc hRt hcl2 hmem hall hown hlen hf hyl hrl hY HHF HGa
          go_enter Tryz.func4, Tryz.ntmps4
          go_upto_region 1 with fail
          generalize hW : w.alloc (Obj.cells #[.slice L0 l.length cl, .slice A ks.length ca, .slice S sl.length d, .slice F R.length cr, .slice Av c.V.length k1, .slice D c.N.length k2, .slice E c.M.length k3, .slice Pa P.length kp, .slice Ta T.length kt, .slice (some rad) r.length eq] 47) = W at *
          clear hW
          have x0 := (HX.out.2 0 _ rfl).1
          have x1 := (HX.out.2 1 _ rfl).1
          have x2 := (HX.out.2 2 _ rfl).1
          have HX2 := Lib.hid (HX.out.q ((Q.refl W).alloc (Obj.cells #[Value.slice A ks.length ca, Value.slice S sl.length d] 26)))
          go_upto_region 3 with fail
          generalize hV : W.alloc (Obj.cells #[Value.slice A ks.length ca, Value.slice S sl.length d] 26) = V at *
          clear hV x0 x1 x2
          have x3 := (HX2.out.2 3 _ rfl).1
          have x4 := (HX2.out.2 4 _ rfl).1
          have x5 := (HX2.out.2 5 _ rfl).1
          have x6 := (HX2.out.2 6 _ rfl).1
          have x7 := (HX2.out.2 7 _ rfl).1
          have x8 := (HX2.out.2 8 _ rfl).1
          have HX3 := Lib.hid (HX2.out.q ((Q.refl V).alloc (Obj.cells #[.slice F R.length cr, .slice Av c.V.length k1, .slice D c.N.length k2, .slice E c.M.length k3, .slice Pa P.length kp, .slice Ta T.length kt] 31)))
          go_upto_region 4 with fail
          generalize hU : V.alloc (Obj.cells #[.slice F R.length cr, .slice Av c.V.length k1, .slice D c.N.length k2, .slice E c.M.length k3, .slice Pa P.length kp, .slice Ta T.length kt] 31) = U at *
          clear hU x3 x4 x5 x6 x7 x8
          have x9 := (HX3.out.2 9 _ rfl).1
          go_upto_region 5 with fail
          clear x9
          have ALL : Hid (∀ U', Q U U' → U'.cell? ⟨W.heap.size, 0, none⟩ = some (.slice A ks.length ca) ∧ U'.cell? ⟨W.heap.size, 1, none⟩ = some (.slice S sl.length d) ∧ U'.cell? ⟨V.heap.size, 0, none⟩ = some (.slice F R.length cr) ∧ U'.cell? ⟨V.heap.size, 1, none⟩ = some (.slice Av c.V.length k1) ∧ U'.cell? ⟨V.heap.size, 2, none⟩ = some (.slice D c.N.length k2) ∧ U'.cell? ⟨V.heap.size, 3, none⟩ = some (.slice E c.M.length k3) ∧ U'.cell? ⟨V.heap.size, 4, none⟩ = some (.slice Pa P.length kp) ∧ U'.cell? ⟨V.heap.size, 5, none⟩ = some (.slice Ta T.length kt)) := fun U' q => by
            have h1 := HT.out.q q
            have h2 := HG6.out.q q
            exact ⟨h1.c0, h1.c1, h2.c0, h2.c1, h2.c2, h2.c3, h2.c4, h2.c5⟩
          obtain ⟨s0, s1, s2, s3, s4, s5, s6, s7⟩ := ALL.out U (Q.refl _)
          have HQ1 : Hid (Q U U) := Lib.hid (Q.refl _)
          go_upto_region 8 with (first
            | (go_at_call 14; (with_reducible refine (shown13_any U).mono ?_); rintro e w2 ⟨rfl, q1⟩; have HQ2 := Lib.hid (HQ1.out.trans q1); clear s0 s1 s2 s3 s4 s5 s6 s7 q1; obtain ⟨s0, s1, s2, s3, s4, s5, s6, s7⟩ := ALL.out w2 HQ2.out)
            | (go_at_call 15; (with_reducible refine (CF.out w2 (HQ0.out.trans HQ2.out)).mono ?_); rintro e w3 ⟨rfl, q2⟩; have HQ3 := Lib.hid (HQ2.out.trans q2); clear s0 s1 s2 s3 s4 s5 s6 s7 q2; obtain ⟨s0, s1, s2, s3, s4, s5, s6, s7⟩ := ALL.out w3 HQ3.out)
            | (go_at_call 16; (with_reducible refine (CT.out w3 (HQ0.out.trans HQ3.out)).mono ?_); rintro e w4 ⟨rfl, q3⟩; have HQ4 := Lib.hid (HQ3.out.trans q3); clear s0 s1 s2 s3 s4 s5 s6 s7 q3; obtain ⟨s0, s1, s2, s3, s4, s5, s6, s7⟩ := ALL.out w4 HQ4.out)
            | fail)
          clear CF CT e0 e1 e1n h40
          go_upto_region 9 with (go_at_call 17; refine (CJ.out w4 (HQ0.out.trans HQ4.out)).mono ?_; rintro e w5 ⟨F4, A4, D4, E4, P4, T4, cr4, l41, l42, l43, lp4, lt4, v4, rfl, hg4, hv4, q4⟩; unfold gvP; obtain ⟨X4, y4, rfl, -, -⟩ := Rw.own_read hv4; have HG4 := Lib.hid hg4; have HQ5 := Lib.hid (HQ4.out.trans q4); clear hg4 hv4 q4 s0 s1 s2 s3 s4 s5 s6 s7)
          have q5 := (Q.refl w5).alloc (Obj.cells #[.slice F4 R.length cr4, .slice A4 c2.V.length l41, .slice D4 c2.N.length l42, .slice E4 c2.M.length l43, .slice P4 P2.length lp4, .slice T4 T2.length lt4] 31)
          have HB4 := Lib.hid (Box6.new w5 (.slice F4 R.length cr4) (.slice A4 c2.V.length l41) (.slice D4 c2.N.length l42) (.slice E4 c2.M.length l43) (.slice P4 P2.length lp4) (.slice T4 T2.length lt4) 31)
          have HQ5' := Lib.hid (HQ5.out.trans q5)
          have HG4' := Lib.hid ((HG4.out.q q5).to (K' := fun b => w.heap.size ≤ b) (agree_q (Q.refl _)) (fun b hb _ => Nat.le_trans (Nat.le_trans HQ0.out.size HQ4.out.size) hb))
          clear q5 HG4 HQ5 CJ
          obtain ⟨B4, hB4⟩ : ∃ B4, B4 = w5.heap.size := ⟨_, rfl⟩
          rw [← hB4] at HB4 ⊢
          clear hB4
          generalize w5.alloc (Obj.cells #[.slice F4 R.length cr4, .slice A4 c2.V.length l41, .slice D4 c2.N.length l42, .slice E4 c2.M.length l43, .slice P4 P2.length lp4, .slice T4 T2.length lt4] 31) = u5 at *
          have HQw5 := Lib.hid (HQ0.out.trans HQ5'.out)
          have ALM : Hid (∀ U', Q u5 U' → U'.cell? ⟨W.heap.size, 0, none⟩ = some (.slice A ks.length ca) ∧ U'.cell? ⟨W.heap.size, 1, none⟩ = some (.slice S sl.length d) ∧ U'.cell? ⟨V.heap.size, 0, none⟩ = some (.slice F R.length cr) ∧ U'.cell? ⟨V.heap.size, 1, none⟩ = some (.slice Av c.V.length k1) ∧ U'.cell? ⟨V.heap.size, 2, none⟩ = some (.slice D c.N.length k2) ∧ U'.cell? ⟨V.heap.size, 3, none⟩ = some (.slice E c.M.length k3) ∧ U'.cell? ⟨V.heap.size, 4, none⟩ = some (.slice Pa P.length kp) ∧ U'.cell? ⟨V.heap.size, 5, none⟩ = some (.slice Ta T.length kt) ∧ U'.cell? ⟨B4, 0, none⟩ = some (.slice F4 R.length cr4) ∧ U'.cell? ⟨B4, 1, none⟩ = some (.slice A4 c2.V.length l41) ∧ U'.cell? ⟨B4, 2, none⟩ = some (.slice D4 c2.N.length l42) ∧ U'.cell? ⟨B4, 3, none⟩ = some (.slice E4 c2.M.length l43) ∧ U'.cell? ⟨B4, 4, none⟩ = some (.slice P4 P2.length lp4) ∧ U'.cell? ⟨B4, 5, none⟩ = some (.slice T4 T2.length lt4)) := fun U' q => by
            obtain ⟨s0, s1, s2, s3, s4, s5, s6, s7⟩ := ALL.out U' (HQ5'.out.trans q)
            obtain ⟨m0, m1, m2, m3, m4, m5, -⟩ := HB4.out.q q
            exact ⟨s0, s1, s2, s3, s4, s5, s6, s7, m0, m1, m2, m3, m4, m5⟩
          have CFh : Hid (∀ (z : Nat) (U : World), z ∈ Y → Q u5 U → Calls Tryz.prog 27 #[.agg #[.slice A4 c2.V.length l41, .slice D4 c2.N.length l42, .slice E4 c2.M.length l43], .int .i64 (z : Int)] U fun e w' => e = .returned (.int .i64 (f : Int)) ∧ Q U w') := fun z U hz q => CF2.out z U A4 D4 E4 l41 l42 l43 hz (HG4'.out.q q).v.rds
          clear CF2
          obtain ⟨s0, s1, s2, s3, s4, s5, s6, s7, m0, m1, m2, m3, m4, m5⟩ := ALM.out u5 (Q.refl u5)
          go_upto_region 11 with (go_at_call 26; refine (CR.out u5 F4 A4 D4 E4 P4 T4 cr4 l41 l42 l43 lp4 lt4 HQw5.out HG4'.out).mono ?_; rintro e w6 ⟨rfl, q6⟩; have HQ6 := Lib.hid q6; clear q6 s0 s1 s2 s3 s4 s5 s6 s7 m0 m1 m2 m3 m4 m5; obtain ⟨s0, s1, s2, s3, s4, s5, s6, s7, m0, m1, m2, m3, m4, m5⟩ := ALM.out w6 HQ6.out)
          clear CR d7
          have hxm : x ∈ Y := List.mem_of_getElem? HX0.out
          have HXm := Lib.hid hxm
          have AL11 : Hid (∀ U', Q u5 U' → (fun U' => U'.cell? ⟨B4, 1, none⟩ = some (.slice A4 c2.V.length l41) ∧ U'.cell? ⟨B4, 2, none⟩ = some (.slice D4 c2.N.length l42) ∧ U'.cell? ⟨B4, 3, none⟩ = some (.slice E4 c2.M.length l43) ∧ U'.cell? rad = some (.int .i64 (x : Int))) U') := fun U' q => by
            obtain ⟨s0, s1, s2, s3, s4, s5, s6, s7, m0, m1, m2, m3, m4, m5⟩ := ALM.out U' q
            exact ⟨m1, m2, m3, by have := HPC.out 0 x HX0.out U' (HQw5.out.trans q); rwa [show rad.add 0 = rad by simp [Addr.add]] at this⟩
          clear hxm s0 s1 s2 s3 s4 s5 s6 s7 m0 m1 m2 m3 m4 m5
          refine wp_region_held_drew (S := fun U' => U'.cell? ⟨B4, 1, none⟩ = some (.slice A4 c2.V.length l41) ∧ U'.cell? ⟨B4, 2, none⟩ = some (.slice D4 c2.N.length l42) ∧ U'.cell? ⟨B4, 3, none⟩ = some (.slice E4 c2.M.length l43) ∧ U'.cell? rad = some (.int .i64 (x : Int))) (by kernel_rfl) ?_ (fun hHeld => ?_)
          · exact AL11.out _ (HQ6.out.trans (Q.refl w6).drew)
          refine take_w (i := 0) (d := some 66) (v := ?_) rfl (by kernel_rfl) (by kernel_rfl) (by kernel_rfl) (fun _ _ _ h => h) rfl (by rfl) ?_ (by assumption) ?_
          rotate_left
          · (intro w hSw; (try dsimp only at hSw); go_simp; (try with_reducible rfl))
          try simp only [Act.put, List.setIfInBounds_toArray, List.set_cons_zero, List.set_cons_succ]
          refine take_w (i := 1) (d := some 67) (v := ?_) rfl (by kernel_rfl) (by kernel_rfl) (by kernel_rfl) (fun _ _ _ h => h) rfl (by rfl) ?_ (by assumption) ?_
          rotate_left
          · (intro w hSw; (try dsimp only at hSw); go_simp; (try with_reducible rfl))
          try simp only [Act.put, List.setIfInBounds_toArray, List.set_cons_zero, List.set_cons_succ]
          refine take_w (i := 2) (d := some 68) (v := ?_) rfl (by kernel_rfl) (by kernel_rfl) (by kernel_rfl) (fun _ _ _ h => h) rfl (by rfl) ?_ (by assumption) ?_
          rotate_left
          · (intro w hSw; (try dsimp only at hSw); go_simp; (try with_reducible rfl))
          try simp only [Act.put, List.setIfInBounds_toArray, List.set_cons_zero, List.set_cons_succ]
          refine take_w (i := 3) (d := some 69) (v := ?_) rfl (by kernel_rfl) (by kernel_rfl) (by kernel_rfl) (fun _ _ _ h => h) rfl (by rfl) ?_ (by assumption) ?_
          rotate_left
          · (intro w hSw; (try dsimp only at hSw); go_simp; (try with_reducible rfl))
          try simp only [Act.put, List.setIfInBounds_toArray, List.set_cons_zero, List.set_cons_succ]
          refine take_w (i := 4) (d := some 70) (v := ?_) rfl (by kernel_rfl) (by kernel_rfl) (by kernel_rfl) (fun _ _ _ h => h) rfl (by rfl) ?_ (by assumption) ?_
          rotate_left
          · (intro w hSw; (try dsimp only at hSw); go_simp; (try with_reducible rfl))
          try simp only [Act.put, List.setIfInBounds_toArray, List.set_cons_zero, List.set_cons_succ]
          refine call_w (i := 5) rfl (by kernel_rfl) (by rfl) (fun K hK => ?_)
          go_simp
          go_at_call 27
          refine (CFh.out x w6.drew HXm.out (HQ6.out.trans (Q.refl w6).drew)).mono ?_
          rintro e w7 ⟨rfl, q7⟩
          have p7 : Hid (Q u5 w7) := Lib.hid ((HQ6.out.trans (Q.refl w6).drew).trans q7)
          clear q7
          refine hK.out _ _ ?_ (fun hHeld => ?_)
          · exact AL11.out _ p7.out
          clear hK K
          try simp only [Act.put, List.setIfInBounds_toArray, List.set_cons_zero, List.set_cons_succ]
          refine take_w (i := 6) (d := some 10) (v := ?_) rfl (by kernel_rfl) (by kernel_rfl) (by kernel_rfl) (fun _ _ _ h => h) rfl (by rfl) ?_ (by assumption) ?_
          rotate_left
          · (intro w hSw; (try dsimp only at hSw); go_simp; (try with_reducible rfl))
          try simp only [Act.put, List.setIfInBounds_toArray, List.set_cons_zero, List.set_cons_succ]
          refine wpAnyH_done (by kernel_rfl) ?_ _
          clear AL11
          go_wp2_with fail
          go_loopw [11, 12] (fun ov iv wr => ∃ k : Nat, k ≤ r.length ∧ iv = .int .i64 k ∧ ov = .bool ((Y.take k).any (fun z => fst c.V z == f)) ∧ Hid (Q u5 wr)) (fun _ iv _ => r.length - (intOf iv).toNat)
          case atStart => exact ⟨0, Nat.zero_le _, rfl, by simp, p7⟩
          case round =>
            obtain ⟨k, hkl, rfl, rfl, HQr⟩ := hrel
            by_cases hlt : k < r.length
            · have hkY : k < Y.length := by have := Hrl.out; omega
              obtain ⟨z, hz⟩ : ∃ z, z = Y[k] := ⟨_, rfl⟩
              have hz2 : Y[k]? = some z := by rw [List.getElem?_eq_getElem hkY, hz]
              have Hzm : Hid (z ∈ Y) := Lib.hid (List.mem_of_getElem? hz2)
              have HT : Hid ((Y.take (k + 1)).any (fun z => fst c.V z == f) = ((Y.take k).any (fun z => fst c.V z == f) || (fst c.V z == f))) := by
                unfold Hid
                rw [List.take_succ_eq_append_getElem hkY, List.any_append, ← hz]
                simp
              have ALK : Hid (∀ U', Q u5 U' → (fun U' => U'.cell? ⟨B4, 1, none⟩ = some (.slice A4 c2.V.length l41) ∧ U'.cell? ⟨B4, 2, none⟩ = some (.slice D4 c2.N.length l42) ∧ U'.cell? ⟨B4, 3, none⟩ = some (.slice E4 c2.M.length l43) ∧ U'.cell? ⟨V.heap.size, 1, none⟩ = some (.slice Av c.V.length k1) ∧ U'.cell? ⟨V.heap.size, 2, none⟩ = some (.slice D c.N.length k2) ∧ U'.cell? ⟨V.heap.size, 3, none⟩ = some (.slice E c.M.length k3) ∧ U'.cell? (rad.add k) = some (.int .i64 (z : Int))) U') := fun U' q => by
                obtain ⟨s0, s1, s2, s3, s4, s5, s6, s7, m0, m1, m2, m3, m4, m5⟩ := ALM.out U' q
                exact ⟨m1, m2, m3, s3, s4, s5, HPC.out k z hz2 U' (HQw5.out.trans q)⟩
              have d0 : decide ((k : Int) < (r.length : Int)) = true := decide_eq_true (by omega)
              have d0n : decide (k < r.length) = true := decide_eq_true hlt
              have j3 : (0 : Int) ≤ (k : Int) := Int.natCast_nonneg _
              have j4 : (k : Int) < (r.length : Int) := by omega
              have Hlt := Lib.hid hlt
              have d5 : ((f : Int) != (f : Int)) = false := by simp
              clear hkl hz hz2 hkY
              generalize hbv : (Y.take k).any (fun z => fst c.V z == f) = bv at *
              have Hbv := Lib.hid hbv
              clear hbv
              go_upto_region 16 with fail
              refine wp_region_held_drew (S := fun U' => U'.cell? ⟨B4, 1, none⟩ = some (.slice A4 c2.V.length l41) ∧ U'.cell? ⟨B4, 2, none⟩ = some (.slice D4 c2.N.length l42) ∧ U'.cell? ⟨B4, 3, none⟩ = some (.slice E4 c2.M.length l43) ∧ U'.cell? ⟨V.heap.size, 1, none⟩ = some (.slice Av c.V.length k1) ∧ U'.cell? ⟨V.heap.size, 2, none⟩ = some (.slice D c.N.length k2) ∧ U'.cell? ⟨V.heap.size, 3, none⟩ = some (.slice E c.M.length k3) ∧ U'.cell? (rad.add k) = some (.int .i64 (z : Int))) (by kernel_rfl) ?_ (fun hHeld => ?_)
              · exact ALK.out _ (HQr.out.trans (Q.refl wr).drew)
              refine take_w (i := 0) (d := some 78) (v := ?_) rfl (by kernel_rfl) (by kernel_rfl) (by kernel_rfl) (fun _ _ _ h => h) rfl (by rfl) ?_ (by assumption) ?_
              rotate_left
              · (intro w hSw; (try dsimp only at hSw); go_simp; (try with_reducible rfl))
              try simp only [Act.put, List.setIfInBounds_toArray, List.set_cons_zero, List.set_cons_succ]
              refine take_w (i := 1) (d := some 79) (v := ?_) rfl (by kernel_rfl) (by kernel_rfl) (by kernel_rfl) (fun _ _ _ h => h) rfl (by rfl) ?_ (by assumption) ?_
              rotate_left
              · (intro w hSw; (try dsimp only at hSw); go_simp; (try with_reducible rfl))
              try simp only [Act.put, List.setIfInBounds_toArray, List.set_cons_zero, List.set_cons_succ]
              refine take_w (i := 2) (d := some 80) (v := ?_) rfl (by kernel_rfl) (by kernel_rfl) (by kernel_rfl) (fun _ _ _ h => h) rfl (by rfl) ?_ (by assumption) ?_
              rotate_left
              · (intro w hSw; (try dsimp only at hSw); go_simp; (try with_reducible rfl))
              try simp only [Act.put, List.setIfInBounds_toArray, List.set_cons_zero, List.set_cons_succ]
              refine take_w (i := 3) (d := some 81) (v := ?_) rfl (by kernel_rfl) (by kernel_rfl) (by kernel_rfl) (fun _ _ _ h => h) rfl (by rfl) ?_ (by assumption) ?_
              rotate_left
              · (intro w hSw; (try dsimp only at hSw); go_simp; (try with_reducible rfl))
              try simp only [Act.put, List.setIfInBounds_toArray, List.set_cons_zero, List.set_cons_succ]
              refine take_w (i := 4) (d := some 82) (v := ?_) rfl (by kernel_rfl) (by kernel_rfl) (by kernel_rfl) (fun _ _ _ h => h) rfl (by rfl) ?_ (by assumption) ?_
              rotate_left
              · (intro w hSw; (try dsimp only at hSw); go_simp; (try with_reducible rfl))
              try simp only [Act.put, List.setIfInBounds_toArray, List.set_cons_zero, List.set_cons_succ]
              refine take_w (i := 5) (d := some 83) (v := ?_) rfl (by kernel_rfl) (by kernel_rfl) (by kernel_rfl) (fun _ _ _ h => h) rfl (by rfl) ?_ (by assumption) ?_
              rotate_left
              · (intro w hSw; (try dsimp only at hSw); go_simp; (try with_reducible rfl))
              try simp only [Act.put, List.setIfInBounds_toArray, List.set_cons_zero, List.set_cons_succ]
              refine take_w (i := 7) (d := some 85) (v := ?_) rfl (by kernel_rfl) (by kernel_rfl) (by kernel_rfl) (fun _ _ _ h => h) rfl (by rfl) ?_ (by assumption) ?_
              rotate_left
              · (intro w hSw; (try dsimp only at hSw); go_simp; (try with_reducible rfl))
              try simp only [Act.put, List.setIfInBounds_toArray, List.set_cons_zero, List.set_cons_succ]
              refine call_w (i := 6) rfl (by kernel_rfl) (by rfl) (fun K hK => ?_)
              go_simp
              go_at_call 27
              refine (CFh.out z wr.drew Hzm.out (HQr.out.trans (Q.refl wr).drew)).mono ?_
              rintro e w8 ⟨rfl, q8⟩
              have p8 : Hid (Q u5 w8) := Lib.hid ((HQr.out.trans (Q.refl wr).drew).trans q8)
              clear q8
              refine hK.out _ _ ?_ (fun hHeld => ?_)
              · exact ALK.out _ p8.out
              clear hK K
              try simp only [Act.put, List.setIfInBounds_toArray, List.set_cons_zero, List.set_cons_succ]
              refine take_w (i := 8) (d := some 86) (v := ?_) rfl (by kernel_rfl) (by kernel_rfl) (by kernel_rfl) (fun _ _ _ h => h) rfl (by rfl) ?_ (by assumption) ?_
              rotate_left
              · (intro w hSw; (try dsimp only at hSw); go_simp; (try with_reducible rfl))
              try simp only [Act.put, List.setIfInBounds_toArray, List.set_cons_zero, List.set_cons_succ]
              refine wpAnyH_done (by kernel_rfl) ?_ _
              cases bv
              · go_upto_region 18 with fail
                obtain ⟨gz, hgz⟩ : ∃ gz, gz = fst c.V z := ⟨_, rfl⟩
                rw [← hgz] at HT
                have hgz' := CF1.out
                clear hgz'
                have CF1z := Lib.hid (fun (U : World) (q : Q w U) => CF1.out z U Hzm.out q)
                rw [← hgz] at CF1z
                obtain ⟨eb, heb⟩ : ∃ eb, eb = ((gz : Int) == (f : Int)) := ⟨_, rfl⟩
                have HEB : Hid ((gz == f) = eb) := Lib.hid (by rw [heb, Bool.eq_iff_iff, beq_iff_eq, beq_iff_eq]; omega)
                rw [HEB.out] at HT
                have heb2 : ((gz : Int) == (f : Int)) = eb := heb.symm
                clear hgz heb
                refine wp_region_held_drew (S := fun U' => U'.cell? ⟨B4, 1, none⟩ = some (.slice A4 c2.V.length l41) ∧ U'.cell? ⟨B4, 2, none⟩ = some (.slice D4 c2.N.length l42) ∧ U'.cell? ⟨B4, 3, none⟩ = some (.slice E4 c2.M.length l43) ∧ U'.cell? ⟨V.heap.size, 1, none⟩ = some (.slice Av c.V.length k1) ∧ U'.cell? ⟨V.heap.size, 2, none⟩ = some (.slice D c.N.length k2) ∧ U'.cell? ⟨V.heap.size, 3, none⟩ = some (.slice E c.M.length k3) ∧ U'.cell? (rad.add k) = some (.int .i64 (z : Int))) (by kernel_rfl) ?_ (fun hHeld => ?_)
                · exact ALK.out _ (p8.out.trans (Q.refl w8).drew)
                refine take_w (i := 0) (d := some 87) (v := ?_) rfl (by kernel_rfl) (by kernel_rfl) (by kernel_rfl) (fun _ _ _ h => h) rfl (by rfl) ?_ (by assumption) ?_
                rotate_left
                · (intro w hSw; (try dsimp only at hSw); go_simp; (try with_reducible rfl))
                try simp only [Act.put, List.setIfInBounds_toArray, List.set_cons_zero, List.set_cons_succ]
                refine take_w (i := 1) (d := some 88) (v := ?_) rfl (by kernel_rfl) (by kernel_rfl) (by kernel_rfl) (fun _ _ _ h => h) rfl (by rfl) ?_ (by assumption) ?_
                rotate_left
                · (intro w hSw; (try dsimp only at hSw); go_simp; (try with_reducible rfl))
                try simp only [Act.put, List.setIfInBounds_toArray, List.set_cons_zero, List.set_cons_succ]
                refine take_w (i := 2) (d := some 89) (v := ?_) rfl (by kernel_rfl) (by kernel_rfl) (by kernel_rfl) (fun _ _ _ h => h) rfl (by rfl) ?_ (by assumption) ?_
                rotate_left
                · (intro w hSw; (try dsimp only at hSw); go_simp; (try with_reducible rfl))
                try simp only [Act.put, List.setIfInBounds_toArray, List.set_cons_zero, List.set_cons_succ]
                refine take_w (i := 3) (d := some 90) (v := ?_) rfl (by kernel_rfl) (by kernel_rfl) (by kernel_rfl) (fun _ _ _ h => h) rfl (by rfl) ?_ (by assumption) ?_
                rotate_left
                · (intro w hSw; (try dsimp only at hSw); go_simp; (try with_reducible rfl))
                try simp only [Act.put, List.setIfInBounds_toArray, List.set_cons_zero, List.set_cons_succ]
                refine take_w (i := 4) (d := some 91) (v := ?_) rfl (by kernel_rfl) (by kernel_rfl) (by kernel_rfl) (fun _ _ _ h => h) rfl (by rfl) ?_ (by assumption) ?_
                rotate_left
                · (intro w hSw; (try dsimp only at hSw); go_simp; (try with_reducible rfl))
                try simp only [Act.put, List.setIfInBounds_toArray, List.set_cons_zero, List.set_cons_succ]
                refine take_w (i := 5) (d := some 92) (v := ?_) rfl (by kernel_rfl) (by kernel_rfl) (by kernel_rfl) (fun _ _ _ h => h) rfl (by rfl) ?_ (by assumption) ?_
                rotate_left
                · (intro w hSw; (try dsimp only at hSw); go_simp; (try with_reducible rfl))
                try simp only [Act.put, List.setIfInBounds_toArray, List.set_cons_zero, List.set_cons_succ]
                refine take_w (i := 6) (d := some 93) (v := ?_) rfl (by kernel_rfl) (by kernel_rfl) (by kernel_rfl) (fun _ _ _ h => h) rfl (by rfl) ?_ (by assumption) ?_
                rotate_left
                · (intro w hSw; (try dsimp only at hSw); go_simp; (try with_reducible rfl))
                try simp only [Act.put, List.setIfInBounds_toArray, List.set_cons_zero, List.set_cons_succ]
                refine take_w (i := 7) (d := some 94) (v := ?_) rfl (by kernel_rfl) (by kernel_rfl) (by kernel_rfl) (fun _ _ _ h => h) rfl (by rfl) ?_ (by assumption) ?_
                rotate_left
                · (intro w hSw; (try dsimp only at hSw); go_simp; (try with_reducible rfl))
                try simp only [Act.put, List.setIfInBounds_toArray, List.set_cons_zero, List.set_cons_succ]
                refine take_w (i := 9) (d := some 96) (v := ?_) rfl (by kernel_rfl) (by kernel_rfl) (by kernel_rfl) (fun _ _ _ h => h) rfl (by rfl) ?_ (by assumption) ?_
                rotate_left
                · (intro w hSw; (try dsimp only at hSw); go_simp; (try with_reducible rfl))
                try simp only [Act.put, List.setIfInBounds_toArray, List.set_cons_zero, List.set_cons_succ]
                refine call_w (i := 8) rfl (by kernel_rfl) (by rfl) (fun K hK => ?_)
                go_simp
                go_at_call 27
                refine (CF1z.out w8.drew (HQw5.out.trans (p8.out.trans (Q.refl w8).drew))).mono ?_
                rintro e w9 ⟨rfl, q9⟩
                have p9 : Hid (Q u5 w9) := Lib.hid ((p8.out.trans (Q.refl w8).drew).trans q9)
                clear q9
                refine hK.out _ _ ?_ (fun hHeld => ?_)
                · exact ALK.out _ p9.out
                clear hK K
                try simp only [Act.put, List.setIfInBounds_toArray, List.set_cons_zero, List.set_cons_succ]
                refine take_w (i := 10) (d := some 97) (v := ?_) rfl (by kernel_rfl) (by kernel_rfl) (by kernel_rfl) (fun _ _ _ h => h) rfl (by rfl) ?_ (by assumption) ?_
                rotate_left
                · (intro w hSw; (try dsimp only at hSw); go_simp; (try with_reducible rfl))
                try simp only [Act.put, List.setIfInBounds_toArray, List.set_cons_zero, List.set_cons_succ]
                refine take_w (i := 11) (d := some 98) (v := ?_) rfl (by kernel_rfl) (by kernel_rfl) (by kernel_rfl) (fun _ _ _ h => h) rfl (by rfl) ?_ (by assumption) ?_
                rotate_left
                · (intro w hSw; (try dsimp only at hSw); go_simp; (try with_reducible rfl))
                try simp only [Act.put, List.setIfInBounds_toArray, List.set_cons_zero, List.set_cons_succ]
                refine take_w (i := 12) (d := some 11) (v := ?_) rfl (by kernel_rfl) (by kernel_rfl) (by kernel_rfl) (fun _ _ _ h => h) rfl (by rfl) ?_ (by assumption) ?_
                rotate_left
                · (intro w hSw; (try dsimp only at hSw); go_simp; (try with_reducible rfl))
                try simp only [Act.put, List.setIfInBounds_toArray, List.set_cons_zero, List.set_cons_succ]
                refine wpAnyH_done (by kernel_rfl) ?_ _
                have hl40 : r.length ≤ 40 := HRl.out
                have hl41 : k < r.length := Hlt.out
                go_wp2_with fail
                go_roundw
                case rel => exact ⟨k + 1, by have := Hlt.out; omega, by have := Hlt.out; have := HRl.out; go_num, by rw [HT.out]; simp, Lib.hid p9.out⟩
                case measure => have := Hlt.out; have := HRl.out; simp [intOf]; omega
              · go_upto_region 18 with fail
                refine wp_region_held_drew (S := fun U' => U'.cell? ⟨B4, 1, none⟩ = some (.slice A4 c2.V.length l41) ∧ U'.cell? ⟨B4, 2, none⟩ = some (.slice D4 c2.N.length l42) ∧ U'.cell? ⟨B4, 3, none⟩ = some (.slice E4 c2.M.length l43) ∧ U'.cell? ⟨V.heap.size, 1, none⟩ = some (.slice Av c.V.length k1) ∧ U'.cell? ⟨V.heap.size, 2, none⟩ = some (.slice D c.N.length k2) ∧ U'.cell? ⟨V.heap.size, 3, none⟩ = some (.slice E c.M.length k3) ∧ U'.cell? (rad.add k) = some (.int .i64 (z : Int))) (by kernel_rfl) ?_ (fun hHeld => ?_)
                · exact ALK.out _ (p8.out.trans (Q.refl w8).drew)
                refine take_w (i := 0) (d := some 87) (v := ?_) rfl (by kernel_rfl) (by kernel_rfl) (by kernel_rfl) (fun _ _ _ h => h) rfl (by rfl) ?_ (by assumption) ?_
                rotate_left
                · (intro w hSw; (try dsimp only at hSw); go_simp; (try with_reducible rfl))
                try simp only [Act.put, List.setIfInBounds_toArray, List.set_cons_zero, List.set_cons_succ]
                refine take_w (i := 1) (d := some 88) (v := ?_) rfl (by kernel_rfl) (by kernel_rfl) (by kernel_rfl) (fun _ _ _ h => h) rfl (by rfl) ?_ (by assumption) ?_
                rotate_left
                · (intro w hSw; (try dsimp only at hSw); go_simp; (try with_reducible rfl))
                try simp only [Act.put, List.setIfInBounds_toArray, List.set_cons_zero, List.set_cons_succ]
                refine take_u (i := 2) (d := some 89) rfl (by kernel_rfl) (by kernel_rfl) (by kernel_rfl) (fun _ _ _ h => h) rfl (by rfl) (by assumption) ?_
                try simp only [Act.put, List.setIfInBounds_toArray, List.set_cons_zero, List.set_cons_succ]
                refine take_u (i := 3) (d := some 90) rfl (by kernel_rfl) (by kernel_rfl) (by kernel_rfl) (fun _ _ _ h => h) rfl (by rfl) (by assumption) ?_
                try simp only [Act.put, List.setIfInBounds_toArray, List.set_cons_zero, List.set_cons_succ]
                refine take_u (i := 4) (d := some 91) rfl (by kernel_rfl) (by kernel_rfl) (by kernel_rfl) (fun _ _ _ h => h) rfl (by rfl) (by assumption) ?_
                try simp only [Act.put, List.setIfInBounds_toArray, List.set_cons_zero, List.set_cons_succ]
                refine take_u (i := 5) (d := some 92) rfl (by kernel_rfl) (by kernel_rfl) (by kernel_rfl) (fun _ _ _ h => h) rfl (by rfl) (by assumption) ?_
                try simp only [Act.put, List.setIfInBounds_toArray, List.set_cons_zero, List.set_cons_succ]
                refine take_u (i := 6) (d := some 93) rfl (by kernel_rfl) (by kernel_rfl) (by kernel_rfl) (fun _ _ _ h => h) rfl (by rfl) (by assumption) ?_
                try simp only [Act.put, List.setIfInBounds_toArray, List.set_cons_zero, List.set_cons_succ]
                refine take_u (i := 7) (d := some 94) rfl (by kernel_rfl) (by kernel_rfl) (by kernel_rfl) (fun _ _ _ h => h) rfl (by rfl) (by assumption) ?_
                try simp only [Act.put, List.setIfInBounds_toArray, List.set_cons_zero, List.set_cons_succ]
                refine take_u (i := 8) (d := some 95) rfl (by kernel_rfl) (by kernel_rfl) (by kernel_rfl) (fun _ _ _ h => h) rfl (by rfl) (by assumption) ?_
                try simp only [Act.put, List.setIfInBounds_toArray, List.set_cons_zero, List.set_cons_succ]
                refine take_u (i := 9) (d := some 96) rfl (by kernel_rfl) (by kernel_rfl) (by kernel_rfl) (fun _ _ _ h => h) rfl (by rfl) (by assumption) ?_
                try simp only [Act.put, List.setIfInBounds_toArray, List.set_cons_zero, List.set_cons_succ]
                refine take_u (i := 10) (d := some 97) rfl (by kernel_rfl) (by kernel_rfl) (by kernel_rfl) (fun _ _ _ h => h) rfl (by rfl) (by assumption) ?_
                try simp only [Act.put, List.setIfInBounds_toArray, List.set_cons_zero, List.set_cons_succ]
                refine take_w (i := 11) (d := some 98) (v := ?_) rfl (by kernel_rfl) (by kernel_rfl) (by kernel_rfl) (fun _ _ _ h => h) rfl (by rfl) ?_ (by assumption) ?_
                rotate_left
                · (intro w hSw; (try dsimp only at hSw); go_simp; (try with_reducible rfl))
                try simp only [Act.put, List.setIfInBounds_toArray, List.set_cons_zero, List.set_cons_succ]
                refine take_w (i := 12) (d := some 11) (v := ?_) rfl (by kernel_rfl) (by kernel_rfl) (by kernel_rfl) (fun _ _ _ h => h) rfl (by rfl) ?_ (by assumption) ?_
                rotate_left
                · (intro w hSw; (try dsimp only at hSw); go_simp; (try with_reducible rfl))
                try simp only [Act.put, List.setIfInBounds_toArray, List.set_cons_zero, List.set_cons_succ]
                refine wpAnyH_done (by kernel_rfl) ?_ _
                have hl40 : r.length ≤ 40 := HRl.out
                have hl41 : k < r.length := Hlt.out
                go_wp2_with fail
                go_roundw
                case rel => exact ⟨k + 1, by have := Hlt.out; omega, by have := Hlt.out; have := HRl.out; go_num, by rw [HT.out]; simp, Lib.hid (p8.out.trans (Q.refl w8).drew)⟩
                case measure => have := Hlt.out; have := HRl.out; simp [intOf]; omega
            · obtain rfl : k = r.length := by omega
              have hin : (Y.take r.length).any (fun z => fst c.V z == f) = true := by rw [Hrl.out, List.take_length]; exact Hown.out
              rw [hin]
              have d0 : decide ((r.length : Int) < (r.length : Int)) = false := decide_eq_false (by omega)
              have d0n : decide (r.length < r.length) = false := decide_eq_false (by omega)
              clear hin
              go_wp2_with fail
              go_ret
              exact ⟨by first | rfl | simp, HQw5.out.trans HQr.out⟩

set_option maxRecDepth 100000 in
theorem lifted (os : Os) (started : os.Started) (H : Type) (enc : TypeId × Value → H) :
    ReturnsInHanded {} Tryz.checked os 4 .any (Rows.cycJoinsSpec.pre6 enc Tryz.prog Tryz.f4 Rows.cycJoinsRow.domain false) (Rows.cycJoinsSpec.post enc Tryz.prog Tryz.f4 false true false false) := by
  refine returnsInHanded_of_change_sized (C := Tryz.checked) own started (by kernel_rfl) Tryz.func4
    (ChangeSpec.witness6 (enc := enc) (C := Tryz.checked) false ⟨#[], #[.agg #[.slice none 0 0, .slice none 0 0, .slice none 0 0, .slice none 0 0, .slice none 0 0, .slice none 0 0, .slice none 0 0, .slice none 0 0, .slice none 0 0, .slice none 0 0]], []⟩ 8 (by kernel_rfl) (by kernel_rfl) (by kernel_rfl) (by kernel_rfl)) ?_
  intro W base args ds gs before hval0 hW hcnd hsz0 _
  have hval : ∀ (j : Nat) t v, Tryz.f4.params[j]? = some t → args[j]? = some v → Value.okWide Tryz.prog W .any base t v := hval0
  have hW' := hW
  obtain ⟨p, q, hA0, hV, rfl, hfz, hnd⟩ := hW
  have hA : DataW.TrodAll enc Tryz.prog W 0 (fun _ => true) true Tryz.f4.params.toList args.toList ds p := hA0
  rw [Tryz.params4] at hA hval
  obtain ⟨v0, vs0, d0, ds0, p0, q0, hargs, rfl, rfl, h0, r0⟩ := trodAll_cons hA
  obtain ⟨rfl, rfl, rfl⟩ := trodAll_nil r0
  obtain rfl : args = #[v0] := by cases args; simp_all
  obtain ⟨rfl, rfl⟩ := trodVars_none hV
  have z0 : ∀ n ∈ d0.weights Tryz.prog 47, n ≤ reachBytes := fun n hn => by
    have := List.all_eq_true.1 hsz0 n (DataW.weights_mem_each (j := 0) (t := 47) (d := d0) (by rw [Tryz.params4]; rfl) rfl n hn)
    simpa using this
  obtain ⟨L0, A, S, F, Av, D, E, Pa, Ta, nl, cl, n, ca, m, d, cr, k1, k2, k3, kp, kt, l, ks, sl, R, c, P, T, B, nq, eq, r, rfl, hnl, hr, hll, hsz, hn, hm, hk, hSi, hl, hs, hsl, hG, hq, hB, hr9, hqe⟩ := open_CycJoinsIn (hval 0 47 v0 rfl rfl) h0 z0
  clear hA0 hval0
  refine (walk L0 A S F Av D E Pa Ta nl cl n ca m d cr k1 k2 k3 kp kt l ks sl R c P T B nq eq r _ hnl hr hll hsz hn hm hk hSi hl hs hsl hG hq hB hr9 hqe).mono fun e W' ⟨he, hg⟩ => ?_
  subst he
  exact ⟨_, rfl, post_law laid (by rw [Tryz.params4]; decide +kernel) rfl rfl (by kernel_rfl) Tryz.underlying4 hW' hg⟩

/-- THE STATEMENT -/
theorem proved : Rows.CycJoinsSaid :=
  OpenClaim.holds_of_wide 4 Tryz.f4 rfl rfl rfl rfl rfl rfl rfl ⟨rfl, rfl, rfl, rfl, rfl⟩ rfl rfl rfl rfl rfl (by kernel_rfl) Tryz.func4 facts
    (of_decide_eq_true (by kernel_rfl)) (by unfold Func.isWrapper; first | (rw [if_pos (by decide +kernel)]; kernel_rfl) | (rw [if_neg (by decide +kernel)]; exact ⟨rfl, rfl⟩))
    (fun os started H enc _ => lifted os started H enc)
end Go.Proofs.YtnifmfdlocgefaaGreat.cycJoins
