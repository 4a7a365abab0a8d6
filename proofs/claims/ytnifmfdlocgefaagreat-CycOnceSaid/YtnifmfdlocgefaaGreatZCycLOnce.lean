/-
  CycOnce holds.
-/
import Derived.Test.YtnifmfdlocgefaaGreatQa
import Derived.Test.YtnifmfdlocgefaaGreatProg
import Derived.WalkKit
import Derived.ProofKit
import Derived.Carry
import Derived.Handy
import Derived.OpenShut
import Derived.ChangeSame
import Derived.Lib.Hide
import Derived.Deep.Draws
import Derived.Deep.QuietTactic
import Derived.BigQuiet
import Derived.Deep.DeepCutAuto
import Derived.Deep.SlicePairs
import Derived.Lib.SmallJoins
import Derived.Outline
import Derived.RangeFuncNested
import Derived.RangeFuncBound
import Derived.RangeFuncCalls
import Derived.RangeFuncLeaves
import Derived.Shelf.Abstract
import Derived.Shelf.RegionOpen
import Derived.OwnWalkIn
import Derived.TacticsInMore
import Derived.LoopNIn
import Derived.LoopIn
import Derived.Laws.EntriesVeiled
import Derived.Deep.RegionHeld
import Derived.OwnWalk
import Derived.Laws.MakeOwn
import Derived.Laws.OwnMore
import Derived.Maps.AppendAt
import Derived.Deep.AppendLies
import Derived.Deep.RegionLaw
import Derived.RegionTactic
import Derived.Laws.CopyOwn
import Derived.Lib.AppendZeros
import Derived.Lib.SliceRun
import Derived.Deep.RegionHeld3
import Derived.Deep.Matrix
import Derived.SizedLaws
import Derived.Laws.Append
import Derived.Deep.Slices
import Derived.Deep.Fields
import Derived.Laws.StructEq
import Derived.Maps.Own
import Derived.Maps.OwnOps
import Derived.Maps.OwnSet
import Derived.Laws.Cover1
import Derived.ChangeKeysEq
import Derived.Shelf.Sort.Plain
import Derived.Shelf.Slices.Reverse
import Derived.Ground.Names2Prog
import Derived.Shelf.Slices.CompactI
import Derived.Shelf.Slices.In.SortNone
import Derived.Lib.RowBridge
import Derived.Test.YtnifmfdlocgefaaGreatRows
import Derived.Deep.CutBlock
import Derived.Test.YtnifmfdlocgefaaGreatCycFOnce
namespace Go.Proofs.YtnifmfdlocgefaaGreat.cycOnce
open Go.Proofs.YtnifmfdlocgefaaGreat.Cy
open Go.ChangeShapes Go.WideShapes Go.ChangeAt Go.RowKit Kit Rw Ex Ig Tr Uf
open Go.Proofs.YtnifmfdlocgefaaGreat.Sg (Sig Row Sized)
open Go.Proofs.YtnifmfdlocgefaaGreat.Hs (Ints Keys BoxT layI)
/-- a row of variables that are there -/
theorem there_row {m : Nat} : ∀ {l : List Int}, 0 < l.length → thereL m l = true → ∃ (x : Nat) (ys : List Nat), l = (x :: ys).map (fun (n : Nat) => (n : Int)) ∧ x < m ∧ ∀ y ∈ ys, y < m
  | [], h, _ => absurd h (by simp)
  | z :: l, _, h => by
    have hall : ∀ u ∈ z :: l, 0 ≤ u ∧ u < (m : Int) := fun u hu => by
      have := List.all_eq_true.1 h u hu
      simpa using this
    refine ⟨z.toNat, l.map Int.toNat, ?_, by have := hall z (List.mem_cons_self ..); omega, fun y hy => ?_⟩
    · rw [List.map_cons, List.map_map]
      have h1 : ((z.toNat : Nat) : Int) = z := Int.toNat_of_nonneg (hall z (List.mem_cons_self ..)).1
      have h2 : l.map ((fun (n : Nat) => (n : Int)) ∘ Int.toNat) = l := by
        conv => rhs; rw [← List.map_id l]
        exact List.map_congr_left fun u hu => Int.toNat_of_nonneg (hall u (List.mem_cons_of_mem _ hu)).1
      rw [h1, h2]
    · obtain ⟨u, hu, rfl⟩ := List.mem_map.1 hy
      have := hall u (List.mem_cons_of_mem _ hu)
      omega
theorem slice_one (A : Option Addr) (n c : Nat) (h : 1 ≤ c) (u : World) : (Instr.slice 24 (.slice A n c) none (some (.int .i64 1)) none).run Tryz.prog u = .ok (.slice A 1 c) u := by
  obtain ⟨i0, hi, hz0, hz1, hz2⟩ := info_parts Hs.intInfo
  have h2 : (1 : Int) ≤ (c : Int) := by omega
  simp [Instr.slice, run_underlying Tryz.underlying24, Instr.sliceBounds, Instr.sliceBound, asIntOf, sizeOf, typeInfo, hi, h2, Addr.add]
set_option maxRecDepth 100000 in
set_option maxHeartbeats 16000000 in
theorem walk (L0 A S F Av D E Pa Ta : Option Addr) (nl cl n ca m d cr k1 k2 k3 kp kt : Nat) (l : List Sig) (ks : List (List Int)) (sl : List Int) (R : List Int) (c : Cells) (P T : List (List Int)) (B : Option Addr) (nq eq : Nat) (r : List Int) (w : World) (hnl : nl = l.length) (hr : Row w w.heap.size L0 l) (hll : l.length ≤ maxLen) (hsz : Sized l) (hn : n = ks.length) (hm : m = sl.length) (hk : Keys w w.heap.size A ks) (hSi : Ints w w.heap.size S sl) (hl : ks.length ≤ 1152921504606846976) (hs : ∀ k ∈ ks, k.length ≤ 1152921504606846976) (hsl : sl.length ≤ 1152921504606846976) (hG : GArg w R c P T F Av D E Pa Ta k1 k2 k3) (hq : nq = r.length) (hB : Ints w w.heap.size B r) (hr9 : r.length ≤ 1152921504606846976) (hqe : nq ≤ eq) :
    Calls Tryz.prog 5 #[.agg #[.slice L0 nl cl, .slice A n ca, .slice S m d, .slice F R.length cr, .slice Av c.V.length k1, .slice D c.N.length k2, .slice E c.M.length k3, .slice Pa P.length kp, .slice Ta T.length kt, .slice B nq eq]] w fun e w' => e = .returned (.bool true) ∧ Q w w' := by
  subst hq
  subst hnl hn hm
  have HQ0 := Lib.hid ((((Q.refl w).alloc (Obj.cells #[.slice L0 l.length cl, .slice A ks.length ca, .slice S sl.length d, .slice F R.length cr, .slice Av c.V.length k1, .slice D c.N.length k2, .slice E c.M.length k3, .slice Pa P.length kp, .slice Ta T.length kt, .slice B r.length eq] 51)).alloc (Obj.cells #[Value.slice A ks.length ca, Value.slice S sl.length d] 26)).alloc (Obj.cells #[.slice F R.length cr, .slice Av c.V.length k1, .slice D c.N.length k2, .slice E c.M.length k3, .slice Pa P.length kp, .slice Ta T.length kt] 31))
  have HX := Lib.hid (own_new8 w [.slice L0 l.length cl, .slice A ks.length ca, .slice S sl.length d, .slice F R.length cr, .slice Av c.V.length k1, .slice D c.N.length k2, .slice E c.M.length k3, .slice Pa P.length kp, .slice Ta T.length kt, .slice B r.length eq] 51)
  have HT := Lib.hid ((BoxT.new (w.alloc (Obj.cells #[.slice L0 l.length cl, .slice A ks.length ca, .slice S sl.length d, .slice F R.length cr, .slice Av c.V.length k1, .slice D c.N.length k2, .slice E c.M.length k3, .slice Pa P.length kp, .slice Ta T.length kt, .slice B r.length eq] 51)) (Value.slice A ks.length ca) (Value.slice S sl.length d) 26).q ((Q.refl _).alloc (Obj.cells #[.slice F R.length cr, .slice Av c.V.length k1, .slice D c.N.length k2, .slice E c.M.length k3, .slice Pa P.length kp, .slice Ta T.length kt] 31)))
  have HG6 := Lib.hid (Box6.new ((w.alloc (Obj.cells #[.slice L0 l.length cl, .slice A ks.length ca, .slice S sl.length d, .slice F R.length cr, .slice Av c.V.length k1, .slice D c.N.length k2, .slice E c.M.length k3, .slice Pa P.length kp, .slice Ta T.length kt, .slice B r.length eq] 51)).alloc (Obj.cells #[Value.slice A ks.length ca, Value.slice S sl.length d] 26)) (.slice F R.length cr) (.slice Av c.V.length k1) (.slice D c.N.length k2) (.slice E c.M.length k3) (.slice Pa P.length kp) (.slice Ta T.length kt) 31)
  have HRow := Lib.hid hr
  have HKy := Lib.hid hk
  have HSl := Lib.hid hSi
  have HGa := Lib.hid hG
  have CF := Lib.hid (fun (U : World) (p : Q w U) => of13_any L0 A S F Av D E Pa Ta l.length cl ks.length ca sl.length d R.length cr c.V.length k1 c.N.length k2 c.M.length k3 P.length kp T.length kt l ks sl R c P T U rfl ((hr.q (Nat.le_refl _) p).more p.size) rfl rfl ((hk.q (Nat.le_refl _) p).more p.size) ((hSi.q (Nat.le_refl _) p).more p.size) hll hsz hl hs hsl rfl rfl rfl rfl rfl rfl ((hG.r.q p)) (hG.u.q p) ((hG.p.q (Nat.le_refl _) p).more p.size) ((hG.t.q (Nat.le_refl _) p).more p.size) hG.lR hG.lU.1 hG.lU.2.1 hG.lU.2.2 hG.lP hG.lT hG.sP hG.sT)
  clear hr hll hsz hk hSi hl hs hsl hG
  have HBr := Lib.hid (ints_rds hB)
  have CT : Hid (∀ U, Q w U → Calls Tryz.prog 16 #[.agg #[.slice F R.length cr, .slice Av c.V.length k1, .slice D c.N.length k2, .slice E c.M.length k3, .slice Pa P.length kp, .slice Ta T.length kt], .slice B r.length eq] U fun e w' => e = .returned (.bool (thereL c.V.length r)) ∧ Q U w') := fun U q => refThere13_any r B Av r.length eq c.V.length k1 _ _ _ _ _ U rfl (HBr.out.q q) (by omega)
  clear hB
  cases hof : of13B l ks sl R c P T
  · rw [hof] at CF
    clear hof HKy HSl HGa HRow CT HBr
    go_enter Tryz.func5, Tryz.ntmps5
    go_upto_region 1 with fail
    generalize hW : w.alloc (Obj.cells #[.slice L0 l.length cl, .slice A ks.length ca, .slice S sl.length d, .slice F R.length cr, .slice Av c.V.length k1, .slice D c.N.length k2, .slice E c.M.length k3, .slice Pa P.length kp, .slice Ta T.length kt, .slice B r.length eq] 51) = W at *
    clear hW
    have x0 := (HX.out.2 0 _ rfl).1
    have x1 := (HX.out.2 1 _ rfl).1
    have x2 := (HX.out.2 2 _ rfl).1
    have HX2 := Lib.hid (HX.out.q ((Q.refl W).alloc (Obj.cells #[Value.slice A ks.length ca, Value.slice S sl.length d] 26)))
    go_upto_region 3 with fail
    generalize hV : W.alloc (Obj.cells #[Value.slice A ks.length ca, Value.slice S sl.length d] 26) = V at *
    clear hV x0 x1 x2
    have x3 := (HX2.out.2 3 _ rfl).1
    have x4 := (HX2.out.2 4 _ rfl).1
    have x5 := (HX2.out.2 5 _ rfl).1
    have x6 := (HX2.out.2 6 _ rfl).1
    have x7 := (HX2.out.2 7 _ rfl).1
    have x8 := (HX2.out.2 8 _ rfl).1
    have HX3 := Lib.hid (HX2.out.q ((Q.refl V).alloc (Obj.cells #[.slice F R.length cr, .slice Av c.V.length k1, .slice D c.N.length k2, .slice E c.M.length k3, .slice Pa P.length kp, .slice Ta T.length kt] 31)))
    go_upto_region 4 with fail
    generalize hU : V.alloc (Obj.cells #[.slice F R.length cr, .slice Av c.V.length k1, .slice D c.N.length k2, .slice E c.M.length k3, .slice Pa P.length kp, .slice Ta T.length kt] 31) = U at *
    clear hU x3 x4 x5 x6 x7 x8
    have x9 := (HX3.out.2 9 _ rfl).1
    go_upto_region 5 with fail
    clear x9
    have ALL : Hid (∀ U', Q U U' → U'.cell? ⟨W.heap.size, 0, none⟩ = some (.slice A ks.length ca) ∧ U'.cell? ⟨W.heap.size, 1, none⟩ = some (.slice S sl.length d) ∧ U'.cell? ⟨V.heap.size, 0, none⟩ = some (.slice F R.length cr) ∧ U'.cell? ⟨V.heap.size, 1, none⟩ = some (.slice Av c.V.length k1) ∧ U'.cell? ⟨V.heap.size, 2, none⟩ = some (.slice D c.N.length k2) ∧ U'.cell? ⟨V.heap.size, 3, none⟩ = some (.slice E c.M.length k3) ∧ U'.cell? ⟨V.heap.size, 4, none⟩ = some (.slice Pa P.length kp) ∧ U'.cell? ⟨V.heap.size, 5, none⟩ = some (.slice Ta T.length kt)) := fun U' q => by
      have h1 := HT.out.q q
      have h2 := HG6.out.q q
      exact ⟨h1.c0, h1.c1, h2.c0, h2.c1, h2.c2, h2.c3, h2.c4, h2.c5⟩
    obtain ⟨s0, s1, s2, s3, s4, s5, s6, s7⟩ := ALL.out U (Q.refl _)
    have HQ1 : Hid (Q U U) := Lib.hid (Q.refl _)
    go_wp2_with (first
      | (go_at_call 14; (with_reducible refine (shown13_any U).mono ?_); rintro e w2 ⟨rfl, q1⟩; have HQ2 := Lib.hid (HQ1.out.trans q1); clear s0 s1 s2 s3 s4 s5 s6 s7 q1; obtain ⟨s0, s1, s2, s3, s4, s5, s6, s7⟩ := ALL.out w2 HQ2.out)
      | (go_at_call 15; (with_reducible refine (CF.out w2 (HQ0.out.trans HQ2.out)).mono ?_); rintro e w3 ⟨rfl, q2⟩; have HQ3 := Lib.hid (HQ2.out.trans q2); clear s0 s1 s2 s3 s4 s5 s6 s7 q2; obtain ⟨s0, s1, s2, s3, s4, s5, s6, s7⟩ := ALL.out w3 HQ3.out)
      | fail)
    go_ret
    exact ⟨rfl, HQ0.out.trans HQ3.out⟩
  · rw [hof] at CF
    by_cases h0 : r.length = 0
    · have e0 : ((r.length : Int) == 0) = true := by rw [h0]; rfl
      clear hof h0 HKy HSl HGa HRow CT HBr
      go_enter Tryz.func5, Tryz.ntmps5
      go_upto_region 1 with fail
      generalize hW : w.alloc (Obj.cells #[.slice L0 l.length cl, .slice A ks.length ca, .slice S sl.length d, .slice F R.length cr, .slice Av c.V.length k1, .slice D c.N.length k2, .slice E c.M.length k3, .slice Pa P.length kp, .slice Ta T.length kt, .slice B r.length eq] 51) = W at *
      clear hW
      have x0 := (HX.out.2 0 _ rfl).1
      have x1 := (HX.out.2 1 _ rfl).1
      have x2 := (HX.out.2 2 _ rfl).1
      have HX2 := Lib.hid (HX.out.q ((Q.refl W).alloc (Obj.cells #[Value.slice A ks.length ca, Value.slice S sl.length d] 26)))
      go_upto_region 3 with fail
      generalize hV : W.alloc (Obj.cells #[Value.slice A ks.length ca, Value.slice S sl.length d] 26) = V at *
      clear hV x0 x1 x2
      have x3 := (HX2.out.2 3 _ rfl).1
      have x4 := (HX2.out.2 4 _ rfl).1
      have x5 := (HX2.out.2 5 _ rfl).1
      have x6 := (HX2.out.2 6 _ rfl).1
      have x7 := (HX2.out.2 7 _ rfl).1
      have x8 := (HX2.out.2 8 _ rfl).1
      have HX3 := Lib.hid (HX2.out.q ((Q.refl V).alloc (Obj.cells #[.slice F R.length cr, .slice Av c.V.length k1, .slice D c.N.length k2, .slice E c.M.length k3, .slice Pa P.length kp, .slice Ta T.length kt] 31)))
      go_upto_region 4 with fail
      generalize hU : V.alloc (Obj.cells #[.slice F R.length cr, .slice Av c.V.length k1, .slice D c.N.length k2, .slice E c.M.length k3, .slice Pa P.length kp, .slice Ta T.length kt] 31) = U at *
      clear hU x3 x4 x5 x6 x7 x8
      have x9 := (HX3.out.2 9 _ rfl).1
      go_upto_region 5 with fail
      clear x9
      have ALL : Hid (∀ U', Q U U' → U'.cell? ⟨W.heap.size, 0, none⟩ = some (.slice A ks.length ca) ∧ U'.cell? ⟨W.heap.size, 1, none⟩ = some (.slice S sl.length d) ∧ U'.cell? ⟨V.heap.size, 0, none⟩ = some (.slice F R.length cr) ∧ U'.cell? ⟨V.heap.size, 1, none⟩ = some (.slice Av c.V.length k1) ∧ U'.cell? ⟨V.heap.size, 2, none⟩ = some (.slice D c.N.length k2) ∧ U'.cell? ⟨V.heap.size, 3, none⟩ = some (.slice E c.M.length k3) ∧ U'.cell? ⟨V.heap.size, 4, none⟩ = some (.slice Pa P.length kp) ∧ U'.cell? ⟨V.heap.size, 5, none⟩ = some (.slice Ta T.length kt)) := fun U' q => by
        have h1 := HT.out.q q
        have h2 := HG6.out.q q
        exact ⟨h1.c0, h1.c1, h2.c0, h2.c1, h2.c2, h2.c3, h2.c4, h2.c5⟩
      obtain ⟨s0, s1, s2, s3, s4, s5, s6, s7⟩ := ALL.out U (Q.refl _)
      have HQ1 : Hid (Q U U) := Lib.hid (Q.refl _)
      go_wp2_with (first
        | (go_at_call 14; (with_reducible refine (shown13_any U).mono ?_); rintro e w2 ⟨rfl, q1⟩; have HQ2 := Lib.hid (HQ1.out.trans q1); clear s0 s1 s2 s3 s4 s5 s6 s7 q1; obtain ⟨s0, s1, s2, s3, s4, s5, s6, s7⟩ := ALL.out w2 HQ2.out)
        | (go_at_call 15; (with_reducible refine (CF.out w2 (HQ0.out.trans HQ2.out)).mono ?_); rintro e w3 ⟨rfl, q2⟩; have HQ3 := Lib.hid (HQ2.out.trans q2); clear s0 s1 s2 s3 s4 s5 s6 s7 q2; obtain ⟨s0, s1, s2, s3, s4, s5, s6, s7⟩ := ALL.out w3 HQ3.out)
        | fail)
      go_ret
      exact ⟨rfl, HQ0.out.trans HQ3.out⟩
    · have e0 : ((r.length : Int) == 0) = false := beq_eq_false_iff_ne.2 (by omega)
      by_cases h40 : 40 < r.length
      · have e1 : decide ((40 : Int) < (r.length : Int)) = true := decide_eq_true (by omega)
        have e1n : decide (40 < r.length) = true := decide_eq_true h40
        clear hof h0 h40 HKy HSl HGa HRow CT HBr
        go_enter Tryz.func5, Tryz.ntmps5
        go_upto_region 1 with fail
        generalize hW : w.alloc (Obj.cells #[.slice L0 l.length cl, .slice A ks.length ca, .slice S sl.length d, .slice F R.length cr, .slice Av c.V.length k1, .slice D c.N.length k2, .slice E c.M.length k3, .slice Pa P.length kp, .slice Ta T.length kt, .slice B r.length eq] 51) = W at *
        clear hW
        have x0 := (HX.out.2 0 _ rfl).1
        have x1 := (HX.out.2 1 _ rfl).1
        have x2 := (HX.out.2 2 _ rfl).1
        have HX2 := Lib.hid (HX.out.q ((Q.refl W).alloc (Obj.cells #[Value.slice A ks.length ca, Value.slice S sl.length d] 26)))
        go_upto_region 3 with fail
        generalize hV : W.alloc (Obj.cells #[Value.slice A ks.length ca, Value.slice S sl.length d] 26) = V at *
        clear hV x0 x1 x2
        have x3 := (HX2.out.2 3 _ rfl).1
        have x4 := (HX2.out.2 4 _ rfl).1
        have x5 := (HX2.out.2 5 _ rfl).1
        have x6 := (HX2.out.2 6 _ rfl).1
        have x7 := (HX2.out.2 7 _ rfl).1
        have x8 := (HX2.out.2 8 _ rfl).1
        have HX3 := Lib.hid (HX2.out.q ((Q.refl V).alloc (Obj.cells #[.slice F R.length cr, .slice Av c.V.length k1, .slice D c.N.length k2, .slice E c.M.length k3, .slice Pa P.length kp, .slice Ta T.length kt] 31)))
        go_upto_region 4 with fail
        generalize hU : V.alloc (Obj.cells #[.slice F R.length cr, .slice Av c.V.length k1, .slice D c.N.length k2, .slice E c.M.length k3, .slice Pa P.length kp, .slice Ta T.length kt] 31) = U at *
        clear hU x3 x4 x5 x6 x7 x8
        have x9 := (HX3.out.2 9 _ rfl).1
        go_upto_region 5 with fail
        clear x9
        have ALL : Hid (∀ U', Q U U' → U'.cell? ⟨W.heap.size, 0, none⟩ = some (.slice A ks.length ca) ∧ U'.cell? ⟨W.heap.size, 1, none⟩ = some (.slice S sl.length d) ∧ U'.cell? ⟨V.heap.size, 0, none⟩ = some (.slice F R.length cr) ∧ U'.cell? ⟨V.heap.size, 1, none⟩ = some (.slice Av c.V.length k1) ∧ U'.cell? ⟨V.heap.size, 2, none⟩ = some (.slice D c.N.length k2) ∧ U'.cell? ⟨V.heap.size, 3, none⟩ = some (.slice E c.M.length k3) ∧ U'.cell? ⟨V.heap.size, 4, none⟩ = some (.slice Pa P.length kp) ∧ U'.cell? ⟨V.heap.size, 5, none⟩ = some (.slice Ta T.length kt)) := fun U' q => by
          have h1 := HT.out.q q
          have h2 := HG6.out.q q
          exact ⟨h1.c0, h1.c1, h2.c0, h2.c1, h2.c2, h2.c3, h2.c4, h2.c5⟩
        obtain ⟨s0, s1, s2, s3, s4, s5, s6, s7⟩ := ALL.out U (Q.refl _)
        have HQ1 : Hid (Q U U) := Lib.hid (Q.refl _)
        go_wp2_with (first
          | (go_at_call 14; (with_reducible refine (shown13_any U).mono ?_); rintro e w2 ⟨rfl, q1⟩; have HQ2 := Lib.hid (HQ1.out.trans q1); clear s0 s1 s2 s3 s4 s5 s6 s7 q1; obtain ⟨s0, s1, s2, s3, s4, s5, s6, s7⟩ := ALL.out w2 HQ2.out)
          | (go_at_call 15; (with_reducible refine (CF.out w2 (HQ0.out.trans HQ2.out)).mono ?_); rintro e w3 ⟨rfl, q2⟩; have HQ3 := Lib.hid (HQ2.out.trans q2); clear s0 s1 s2 s3 s4 s5 s6 s7 q2; obtain ⟨s0, s1, s2, s3, s4, s5, s6, s7⟩ := ALL.out w3 HQ3.out)
          | fail)
        go_ret
        exact ⟨rfl, HQ0.out.trans HQ3.out⟩
      · have e1 : decide ((40 : Int) < (r.length : Int)) = false := decide_eq_false (by omega)
        have e1n : decide (40 < r.length) = false := decide_eq_false h40
        cases hth : thereL c.V.length r
        · rw [hth] at CT
          clear hof h0 h40 hth HKy HSl HGa HRow HBr
          go_enter Tryz.func5, Tryz.ntmps5
          go_upto_region 1 with fail
          generalize hW : w.alloc (Obj.cells #[.slice L0 l.length cl, .slice A ks.length ca, .slice S sl.length d, .slice F R.length cr, .slice Av c.V.length k1, .slice D c.N.length k2, .slice E c.M.length k3, .slice Pa P.length kp, .slice Ta T.length kt, .slice B r.length eq] 51) = W at *
          clear hW
          have x0 := (HX.out.2 0 _ rfl).1
          have x1 := (HX.out.2 1 _ rfl).1
          have x2 := (HX.out.2 2 _ rfl).1
          have HX2 := Lib.hid (HX.out.q ((Q.refl W).alloc (Obj.cells #[Value.slice A ks.length ca, Value.slice S sl.length d] 26)))
          go_upto_region 3 with fail
          generalize hV : W.alloc (Obj.cells #[Value.slice A ks.length ca, Value.slice S sl.length d] 26) = V at *
          clear hV x0 x1 x2
          have x3 := (HX2.out.2 3 _ rfl).1
          have x4 := (HX2.out.2 4 _ rfl).1
          have x5 := (HX2.out.2 5 _ rfl).1
          have x6 := (HX2.out.2 6 _ rfl).1
          have x7 := (HX2.out.2 7 _ rfl).1
          have x8 := (HX2.out.2 8 _ rfl).1
          have HX3 := Lib.hid (HX2.out.q ((Q.refl V).alloc (Obj.cells #[.slice F R.length cr, .slice Av c.V.length k1, .slice D c.N.length k2, .slice E c.M.length k3, .slice Pa P.length kp, .slice Ta T.length kt] 31)))
          go_upto_region 4 with fail
          generalize hU : V.alloc (Obj.cells #[.slice F R.length cr, .slice Av c.V.length k1, .slice D c.N.length k2, .slice E c.M.length k3, .slice Pa P.length kp, .slice Ta T.length kt] 31) = U at *
          clear hU x3 x4 x5 x6 x7 x8
          have x9 := (HX3.out.2 9 _ rfl).1
          go_upto_region 5 with fail
          clear x9
          have ALL : Hid (∀ U', Q U U' → U'.cell? ⟨W.heap.size, 0, none⟩ = some (.slice A ks.length ca) ∧ U'.cell? ⟨W.heap.size, 1, none⟩ = some (.slice S sl.length d) ∧ U'.cell? ⟨V.heap.size, 0, none⟩ = some (.slice F R.length cr) ∧ U'.cell? ⟨V.heap.size, 1, none⟩ = some (.slice Av c.V.length k1) ∧ U'.cell? ⟨V.heap.size, 2, none⟩ = some (.slice D c.N.length k2) ∧ U'.cell? ⟨V.heap.size, 3, none⟩ = some (.slice E c.M.length k3) ∧ U'.cell? ⟨V.heap.size, 4, none⟩ = some (.slice Pa P.length kp) ∧ U'.cell? ⟨V.heap.size, 5, none⟩ = some (.slice Ta T.length kt)) := fun U' q => by
            have h1 := HT.out.q q
            have h2 := HG6.out.q q
            exact ⟨h1.c0, h1.c1, h2.c0, h2.c1, h2.c2, h2.c3, h2.c4, h2.c5⟩
          obtain ⟨s0, s1, s2, s3, s4, s5, s6, s7⟩ := ALL.out U (Q.refl _)
          have HQ1 : Hid (Q U U) := Lib.hid (Q.refl _)
          go_wp2_with (first
            | (go_at_call 14; (with_reducible refine (shown13_any U).mono ?_); rintro e w2 ⟨rfl, q1⟩; have HQ2 := Lib.hid (HQ1.out.trans q1); clear s0 s1 s2 s3 s4 s5 s6 s7 q1; obtain ⟨s0, s1, s2, s3, s4, s5, s6, s7⟩ := ALL.out w2 HQ2.out)
            | (go_at_call 15; (with_reducible refine (CF.out w2 (HQ0.out.trans HQ2.out)).mono ?_); rintro e w3 ⟨rfl, q2⟩; have HQ3 := Lib.hid (HQ2.out.trans q2); clear s0 s1 s2 s3 s4 s5 s6 s7 q2; obtain ⟨s0, s1, s2, s3, s4, s5, s6, s7⟩ := ALL.out w3 HQ3.out)
            | (go_at_call 16; (with_reducible refine (CT.out w3 (HQ0.out.trans HQ3.out)).mono ?_); rintro e w4 ⟨rfl, q3⟩; have HQ4 := Lib.hid (HQ3.out.trans q3); clear s0 s1 s2 s3 s4 s5 s6 s7 q3; obtain ⟨s0, s1, s2, s3, s4, s5, s6, s7⟩ := ALL.out w4 HQ4.out)
            | fail)
          go_ret
          exact ⟨rfl, HQ0.out.trans HQ4.out⟩
        · rw [hth] at CT
          obtain ⟨h12, hv40⟩ := of13_12 hof
          obtain ⟨hO, hsl, hfew, hC, hp, ht, g6, hA⟩ := of12_plain h12
          clear hof h12
          obtain ⟨x, ys, hrow, hx, hys⟩ : ∃ (x : Nat) (ys : List Nat), r = (x :: ys).map (fun (n : Nat) => (n : Int)) ∧ x < c.V.length ∧ ∀ y ∈ ys, y < c.V.length := there_row (by omega) hth
          have hyl : ys.length + 1 = r.length := by rw [hrow]; simp
          have hJ : OkJ R c.V.length 1000 1000 0 ⟨c, P, T, []⟩ := ⟨hC, rfl, hp, ht, hfew.2.1, hfew.2.2.2.2.1, hfew.2.2.2.2.2, by simp⟩
          obtain ⟨c2, P2, T2, l2, hGe⟩ : ∃ c2 P2 T2 l2, joinJ R ks x ys ⟨c, P, T, []⟩ = ⟨c2, P2, T2, l2⟩ := ⟨_, _, _, _, rfl⟩
          have hJ2 := OkJ.joins (ks := ks) hx ys 0 _ hJ hys
          have hF2 := (joins_fst (ks := ks) hx ys 0 _ hJ hys).1
          rw [hGe] at hJ2 hF2
          have hJ3 : OkJ R c.V.length (1000 + ys.length) 1000 0 ⟨c2, P2, T2, []⟩ := ⟨hJ2.cl, hJ2.len, hJ2.lp, hJ2.lt, by have := hJ2.few; simpa using this, hJ2.sp, hJ2.st, by simp⟩
          have hys40 : ys.length ≤ 40 := by omega
          have CJ : Hid (∀ U, Q w U → Calls Tryz.prog 17 #[.agg #[.slice A ks.length ca, .slice S sl.length d], .agg #[.slice F R.length cr, .slice Av c.V.length k1, .slice D c.N.length k2, .slice E c.M.length k3, .slice Pa P.length kp, .slice Ta T.length kt], .slice B r.length eq] U (OneAns R c2 P2 T2 l2 U)) := fun U q => by
            have h := join13p_any R c P T ks A S F Av D E Pa Ta B ca d cr k1 k2 k3 kp kt eq c.V.length 1000 1000 x ys U ((HKy.out.q (Nat.le_refl _) q).more q.size) (by rw [← hsl]; exact (HSl.out.q (Nat.le_refl _) q).more q.size) hO hA (HGa.out.r.q q) (HGa.out.u.q q) ((HGa.out.p.q (Nat.le_refl _) q).more q.size) ((HGa.out.t.q (Nat.le_refl _) q).more q.size) hJ hfew.1 (by omega) (by omega) hys40 hx hys (by rw [← hrow]; exact HBr.out.q q)
            rw [← hsl, hyl, hGe] at h
            exact h
          have hf2 : Few c2 (1000 + (0 + ys.length)) := hJ2.few
          have HHF : Hid (R.length ≤ 1000 ∧ Few c2 1100 ∧ P2.length ≤ 1000 ∧ T2.length ≤ 1000 ∧ (∀ k ∈ P2, k.length ≤ 1000) ∧ (∀ k ∈ T2, k.length ≤ 1000)) := ⟨hfew.1, ⟨by have := hf2.1; omega, by have := hf2.2.1; omega, by have := hf2.2.2; omega⟩, by have := hJ2.lp; dsimp only at this; omega, by have := hJ2.lt; dsimp only at this; omega, hJ2.sp, hJ2.st⟩
          have hE2 : joinJ R ks x ys ⟨c2, P2, T2, []⟩ = ⟨c2, P2, T2, []⟩ := joins_none ys _ (fun y hy => hF2 y (hys y hy) (.inl hy))
          have CK : Hid (∀ (U : World) (F4 A4 D4 E4 P4 T4 : Option Addr) (cr4 l41 l42 l43 lp4 lt4 : Nat), Q w U → GRP U (fun b => b < U.heap.size) R c2 P2 T2 F4 A4 D4 E4 P4 T4 cr4 l41 l42 l43 lp4 lt4 → Calls Tryz.prog 17 #[.agg #[.slice A ks.length ca, .slice S sl.length d], .agg #[.slice F4 R.length cr4, .slice A4 c2.V.length l41, .slice D4 c2.N.length l42, .slice E4 c2.M.length l43, .slice P4 P2.length lp4, .slice T4 T2.length lt4], .slice B r.length eq] U (OneAns R c2 P2 T2 [] U)) := fun U F4 A4 D4 E4 P4 T4 cr4 l41 l42 l43 lp4 lt4 q hG => by
            have h := join13p_any R c2 P2 T2 ks A S F4 A4 D4 E4 P4 T4 B ca d cr4 l41 l42 l43 lp4 lt4 eq c.V.length (1000 + ys.length) 1000 x ys U ((HKy.out.q (Nat.le_refl _) q).more q.size) (by rw [← hsl]; exact (HSl.out.q (Nat.le_refl _) q).more q.size) hO hA hG.r.rds hG.rd hG.p.keys hG.t.keys hJ3 hfew.1 (by omega) (by omega) hys40 hx hys (by rw [← hrow]; exact HBr.out.q q)
            rw [← hsl, hyl, hE2] at h
            exact h
          have CM : Hid (∀ U, Q w U → Calls Tryz.prog 17 #[.agg #[.slice A ks.length ca, .slice S sl.length d], .agg #[.slice F R.length cr, .slice Av c.V.length k1, .slice D c.N.length k2, .slice E c.M.length k3, .slice Pa P.length kp, .slice Ta T.length kt], .slice B 1 eq] U (OneAns R c P T [] U)) := fun U q => by
            have hB1 : Tr.Rds U U.heap.size B (Tr.cellsI (([x] : List Nat).map fun (n : Nat) => (n : Int))) := fun h0 => by
              obtain ⟨ad, e, hb, hc⟩ := (HBr.out.q q) (by rw [hrow]; simp [Tr.cellsI])
              refine ⟨ad, e, hb, fun j v hv => hc j v ?_⟩
              match j, hv with
              | 0, hv => rw [hrow]; simpa [Tr.cellsI] using hv
              | j + 1, hv => simp [Tr.cellsI] at hv
            have h := join13p_any R c P T ks A S F Av D E Pa Ta B ca d cr k1 k2 k3 kp kt eq c.V.length 1000 1000 x [] U ((HKy.out.q (Nat.le_refl _) q).more q.size) (by rw [← hsl]; exact (HSl.out.q (Nat.le_refl _) q).more q.size) hO hA (HGa.out.r.q q) (HGa.out.u.q q) ((HGa.out.p.q (Nat.le_refl _) q).more q.size) ((HGa.out.t.q (Nat.le_refl _) q).more q.size) hJ hfew.1 (by omega) (by omega) (by simp) hx (fun y hy => by cases hy) hB1
            rw [← hsl] at h
            exact h
          have HF := Lib.hid hfew
          have Heq : 1 ≤ eq := by omega
          clear hf2 hO hsl hfew hC hp ht g6 hA hrow hx hys hJ hJ2 hJ3 hF2 hGe hE2 hys40 hv40 HKy HSl HRow HBr h0 h40 hth hqe hr9
          go_enter Tryz.func5, Tryz.ntmps5
          go_upto_region 1 with fail
          generalize hW : w.alloc (Obj.cells #[.slice L0 l.length cl, .slice A ks.length ca, .slice S sl.length d, .slice F R.length cr, .slice Av c.V.length k1, .slice D c.N.length k2, .slice E c.M.length k3, .slice Pa P.length kp, .slice Ta T.length kt, .slice B r.length eq] 51) = W at *
          clear hW
          have x0 := (HX.out.2 0 _ rfl).1
          have x1 := (HX.out.2 1 _ rfl).1
          have x2 := (HX.out.2 2 _ rfl).1
          have HX2 := Lib.hid (HX.out.q ((Q.refl W).alloc (Obj.cells #[Value.slice A ks.length ca, Value.slice S sl.length d] 26)))
          go_upto_region 3 with fail
          generalize hV : W.alloc (Obj.cells #[Value.slice A ks.length ca, Value.slice S sl.length d] 26) = V at *
          clear hV x0 x1 x2
          have x3 := (HX2.out.2 3 _ rfl).1
          have x4 := (HX2.out.2 4 _ rfl).1
          have x5 := (HX2.out.2 5 _ rfl).1
          have x6 := (HX2.out.2 6 _ rfl).1
          have x7 := (HX2.out.2 7 _ rfl).1
          have x8 := (HX2.out.2 8 _ rfl).1
          have HX3 := Lib.hid (HX2.out.q ((Q.refl V).alloc (Obj.cells #[.slice F R.length cr, .slice Av c.V.length k1, .slice D c.N.length k2, .slice E c.M.length k3, .slice Pa P.length kp, .slice Ta T.length kt] 31)))
          go_upto_region 4 with fail
          generalize hU : V.alloc (Obj.cells #[.slice F R.length cr, .slice Av c.V.length k1, .slice D c.N.length k2, .slice E c.M.length k3, .slice Pa P.length kp, .slice Ta T.length kt] 31) = U at *
          clear hU x3 x4 x5 x6 x7 x8
          have x9 := (HX3.out.2 9 _ rfl).1
          go_upto_region 5 with fail
          clear x9
          have ALL : Hid (∀ U', Q U U' → U'.cell? ⟨W.heap.size, 0, none⟩ = some (.slice A ks.length ca) ∧ U'.cell? ⟨W.heap.size, 1, none⟩ = some (.slice S sl.length d) ∧ U'.cell? ⟨V.heap.size, 0, none⟩ = some (.slice F R.length cr) ∧ U'.cell? ⟨V.heap.size, 1, none⟩ = some (.slice Av c.V.length k1) ∧ U'.cell? ⟨V.heap.size, 2, none⟩ = some (.slice D c.N.length k2) ∧ U'.cell? ⟨V.heap.size, 3, none⟩ = some (.slice E c.M.length k3) ∧ U'.cell? ⟨V.heap.size, 4, none⟩ = some (.slice Pa P.length kp) ∧ U'.cell? ⟨V.heap.size, 5, none⟩ = some (.slice Ta T.length kt)) := fun U' q => by
            have h1 := HT.out.q q
            have h2 := HG6.out.q q
            exact ⟨h1.c0, h1.c1, h2.c0, h2.c1, h2.c2, h2.c3, h2.c4, h2.c5⟩
          obtain ⟨s0, s1, s2, s3, s4, s5, s6, s7⟩ := ALL.out U (Q.refl _)
          have HQ1 : Hid (Q U U) := Lib.hid (Q.refl _)
          go_upto_region 8 with (first
            | (go_at_call 14; (with_reducible refine (shown13_any U).mono ?_); rintro e w2 ⟨rfl, q1⟩; have HQ2 := Lib.hid (HQ1.out.trans q1); clear s0 s1 s2 s3 s4 s5 s6 s7 q1; obtain ⟨s0, s1, s2, s3, s4, s5, s6, s7⟩ := ALL.out w2 HQ2.out)
            | (go_at_call 15; (with_reducible refine (CF.out w2 (HQ0.out.trans HQ2.out)).mono ?_); rintro e w3 ⟨rfl, q2⟩; have HQ3 := Lib.hid (HQ2.out.trans q2); clear s0 s1 s2 s3 s4 s5 s6 s7 q2; obtain ⟨s0, s1, s2, s3, s4, s5, s6, s7⟩ := ALL.out w3 HQ3.out)
            | (go_at_call 16; (with_reducible refine (CT.out w3 (HQ0.out.trans HQ3.out)).mono ?_); rintro e w4 ⟨rfl, q3⟩; have HQ4 := Lib.hid (HQ3.out.trans q3); clear s0 s1 s2 s3 s4 s5 s6 s7 q3; obtain ⟨s0, s1, s2, s3, s4, s5, s6, s7⟩ := ALL.out w4 HQ4.out)
            | fail)
          clear CF CT e0 e1 e1n
          go_upto_region 9 with (go_at_call 17; refine (CJ.out w4 (HQ0.out.trans HQ4.out)).mono ?_; rintro e w5 ⟨F4, A4, D4, E4, P4, T4, cr4, l41, l42, l43, lp4, lt4, v4, rfl, hg4, hv4, q4⟩; unfold gvP; obtain ⟨X4, y4, rfl, -, -⟩ := Rw.own_read hv4; have HG4 := Lib.hid hg4; have HQ5 := Lib.hid (HQ4.out.trans q4); clear hg4 hv4 q4 s0 s1 s2 s3 s4 s5 s6 s7)
          have q5 := (Q.refl w5).alloc (Obj.cells #[.slice F4 R.length cr4, .slice A4 c2.V.length l41, .slice D4 c2.N.length l42, .slice E4 c2.M.length l43, .slice P4 P2.length lp4, .slice T4 T2.length lt4] 31)
          have HB4 := Lib.hid (Box6.new w5 (.slice F4 R.length cr4) (.slice A4 c2.V.length l41) (.slice D4 c2.N.length l42) (.slice E4 c2.M.length l43) (.slice P4 P2.length lp4) (.slice T4 T2.length lt4) 31)
          have HG4' := Lib.hid (HG4.out.q q5)
          have HQ5' := Lib.hid (HQ5.out.trans q5)
          clear q5 HG4 HQ5 CJ
          obtain ⟨B4, hB4⟩ : ∃ B4, B4 = w5.heap.size := ⟨_, rfl⟩
          rw [← hB4] at HB4 ⊢
          clear hB4
          generalize w5.alloc (Obj.cells #[.slice F4 R.length cr4, .slice A4 c2.V.length l41, .slice D4 c2.N.length l42, .slice E4 c2.M.length l43, .slice P4 P2.length lp4, .slice T4 T2.length lt4] 31) = u5 at *
          obtain ⟨s0, s1, s2, s3, s4, s5, s6, s7⟩ := ALL.out u5 HQ5'.out
          obtain ⟨m0, m1, m2, m3, m4, m5, -⟩ := HB4.out
          go_upto_region 10 with (go_at_call 17; refine (CK.out u5 F4 A4 D4 E4 P4 T4 cr4 l41 l42 l43 lp4 lt4 (HQ0.out.trans HQ5'.out) (HG4'.out.to (agree_q (Q.refl u5)) (fun b _ h => h))).mono ?_; rintro e w6 ⟨F5, A5, D5, E5, P5, T5, cr5, l51, l52, l53, lp5, lt5, v5, rfl, hg5, hv5, q6⟩; unfold gvP; obtain ⟨X5, y5, rfl, -, -⟩ := Rw.own_read hv5; have HG5 := Lib.hid hg5; have Hq6 := Lib.hid q6; clear hg5 hv5 q6 s0 s1 s2 s3 s4 s5 s6 s7 m0 m1 m2 m3 m4 m5)
          have q7 := (Q.refl w6).alloc (Obj.cells #[.slice F5 R.length cr5, .slice A5 c2.V.length l51, .slice D5 c2.N.length l52, .slice E5 c2.M.length l53, .slice P5 P2.length lp5, .slice T5 T2.length lt5] 31)
          have HB5 := Lib.hid (Box6.new w6 (.slice F5 R.length cr5) (.slice A5 c2.V.length l51) (.slice D5 c2.N.length l52) (.slice E5 c2.M.length l53) (.slice P5 P2.length lp5) (.slice T5 T2.length lt5) 31)
          have HG5' := Lib.hid (HG5.out.q q7)
          have HG45 := Lib.hid (HG4'.out.q (Hq6.out.trans q7))
          have HB45 := Lib.hid (HB4.out.q (Hq6.out.trans q7))
          have HQ6' := Lib.hid (HQ5'.out.trans (Hq6.out.trans q7))
          clear q7 HG5 HQ5' CK HG4' HB4 Hq6
          obtain ⟨B5, hB5⟩ : ∃ B5, B5 = w6.heap.size := ⟨_, rfl⟩
          rw [← hB5] at HB5 ⊢
          clear hB5
          generalize w6.alloc (Obj.cells #[.slice F5 R.length cr5, .slice A5 c2.V.length l51, .slice D5 c2.N.length l52, .slice E5 c2.M.length l53, .slice P5 P2.length lp5, .slice T5 T2.length lt5] 31) = u6 at *
          have hsl1 := slice_one B r.length eq Heq
          refine begin_t (S := fun U' => U'.cell? ⟨W.heap.size, 0, none⟩ = some (.slice A ks.length ca) ∧ U'.cell? ⟨W.heap.size, 1, none⟩ = some (.slice S sl.length d) ∧ U'.cell? ⟨V.heap.size, 0, none⟩ = some (.slice F R.length cr) ∧ U'.cell? ⟨V.heap.size, 1, none⟩ = some (.slice Av c.V.length k1) ∧ U'.cell? ⟨V.heap.size, 2, none⟩ = some (.slice D c.N.length k2) ∧ U'.cell? ⟨V.heap.size, 3, none⟩ = some (.slice E c.M.length k3) ∧ U'.cell? ⟨V.heap.size, 4, none⟩ = some (.slice Pa P.length kp) ∧ U'.cell? ⟨V.heap.size, 5, none⟩ = some (.slice Ta T.length kt)) (z := 9) (by kernel_rfl) ?_ (fun hHeld => ?_)
          · exact ALL.out _ (HQ6'.out.trans (Q.refl u6).drew)
          refine take_t (i := 0) (d := some 60) (v := ?_) rfl (by kernel_rfl) (by kernel_rfl) (by kernel_rfl) (by kernel_rfl) (fun _ _ _ h => h) rfl (by rfl) ?_ (by assumption) ?_
          rotate_left
          · (intro w hSw; (try dsimp only at hSw); go_simp; (try with_reducible rfl))
          try simp only [Act.put, List.setIfInBounds_toArray, List.set_cons_zero, List.set_cons_succ]
          refine take_t (i := 1) (d := some 61) (v := ?_) rfl (by kernel_rfl) (by kernel_rfl) (by kernel_rfl) (by kernel_rfl) (fun _ _ _ h => h) rfl (by rfl) ?_ (by assumption) ?_
          rotate_left
          · (intro w hSw; (try dsimp only at hSw); go_simp; (try with_reducible rfl))
          try simp only [Act.put, List.setIfInBounds_toArray, List.set_cons_zero, List.set_cons_succ]
          refine take_y (i := 2) (d := some 62) (v := ?_) rfl (by kernel_rfl) (by kernel_rfl) (by kernel_rfl) (by kernel_rfl) (fun _ _ _ h => h) rfl (by rfl) ?_ (by assumption) ?_
          rotate_left
          · (intro w; go_simp; (try with_reducible rfl))
          try simp only [Act.put, List.setIfInBounds_toArray, List.set_cons_zero, List.set_cons_succ]
          refine take_y (i := 3) (d := some 63) (v := ?_) rfl (by kernel_rfl) (by kernel_rfl) (by kernel_rfl) (by kernel_rfl) (fun _ _ _ h => h) rfl (by rfl) ?_ (by assumption) ?_
          rotate_left
          · (intro w; go_simp; (try with_reducible rfl))
          try simp only [Act.put, List.setIfInBounds_toArray, List.set_cons_zero, List.set_cons_succ]
          refine both_t (i := 4) (j := 8) rfl rfl (by kernel_rfl) (by rfl) (by rfl) (fun K hK => ?_) (fun K hK => ?_)
          · go_simp
            go_at_call 17
            refine (CM.out _ (HQ0.out.trans (HQ6'.out.trans (Q.refl u6).drew))).mono ?_
            rintro e w8 ⟨F6, A6, D6, E6, P6, T6, cr6, l61, l62, l63, lp6, lt6, v6, rfl, hg6, hv6, q8⟩
            unfold gvP
            obtain ⟨X6, y6, rfl, -, -⟩ := Rw.own_read hv6
            have HG6 := Lib.hid hg6
            have Hq8 : Hid (Q u6 w8) := Lib.hid ((Q.refl u6).drew.trans q8)
            have Hq8l := Lib.hid q8
            clear hg6 hv6 q8
            have hHeld : ((fun U' => U'.cell? ⟨W.heap.size, 0, none⟩ = some (.slice A ks.length ca) ∧ U'.cell? ⟨W.heap.size, 1, none⟩ = some (.slice S sl.length d) ∧ U'.cell? ⟨V.heap.size, 0, none⟩ = some (.slice F R.length cr) ∧ U'.cell? ⟨V.heap.size, 1, none⟩ = some (.slice Av c.V.length k1) ∧ U'.cell? ⟨V.heap.size, 2, none⟩ = some (.slice D c.N.length k2) ∧ U'.cell? ⟨V.heap.size, 3, none⟩ = some (.slice E c.M.length k3) ∧ U'.cell? ⟨V.heap.size, 4, none⟩ = some (.slice Pa P.length kp) ∧ U'.cell? ⟨V.heap.size, 5, none⟩ = some (.slice Ta T.length kt)) : World → Prop) _ := ALL.out _ (HQ6'.out.trans Hq8.out)
            refine hK.out _ _ (fun _ => hHeld) ?_
            clear hK K
            try simp only [Act.put, List.setIfInBounds_toArray, List.set_cons_zero, List.set_cons_succ]
            refine take_y (i := 5) (d := some 59) (v := ?_) rfl (by kernel_rfl) (by kernel_rfl) (by kernel_rfl) (by kernel_rfl) (fun _ _ _ h => h) rfl (by rfl) ?_ (by assumption) ?_
            rotate_left
            · (intro w; go_simp; (try with_reducible rfl))
            try simp only [Act.put, List.setIfInBounds_toArray, List.set_cons_zero, List.set_cons_succ]
            refine take_y (i := 6) (d := some 65) (v := ?_) rfl (by kernel_rfl) (by kernel_rfl) (by kernel_rfl) (by kernel_rfl) (fun _ _ _ h => h) rfl (by rfl) ?_ (by assumption) ?_
            rotate_left
            · (intro w; go_simp; (try with_reducible rfl))
            try simp only [Act.put, List.setIfInBounds_toArray, List.set_cons_zero, List.set_cons_succ]
            refine take_y (i := 7) (d := some 66) (v := ?_) rfl (by kernel_rfl) (by kernel_rfl) (by kernel_rfl) (by kernel_rfl) (fun _ _ _ h => h) rfl (by rfl) ?_ (by assumption) ?_
            rotate_left
            · (intro w; go_simp; (try with_reducible rfl))
            try simp only [Act.put, List.setIfInBounds_toArray, List.set_cons_zero, List.set_cons_succ]
            refine call_t (i := 8) rfl (by kernel_rfl) (by rfl) (fun K hK => ?_)
            go_simp
            have hHeld : ((fun U' => U'.cell? ⟨W.heap.size, 0, none⟩ = some (.slice A ks.length ca) ∧ U'.cell? ⟨W.heap.size, 1, none⟩ = some (.slice S sl.length d) ∧ U'.cell? ⟨V.heap.size, 0, none⟩ = some (.slice F R.length cr) ∧ U'.cell? ⟨V.heap.size, 1, none⟩ = some (.slice Av c.V.length k1) ∧ U'.cell? ⟨V.heap.size, 2, none⟩ = some (.slice D c.N.length k2) ∧ U'.cell? ⟨V.heap.size, 3, none⟩ = some (.slice E c.M.length k3) ∧ U'.cell? ⟨V.heap.size, 4, none⟩ = some (.slice Pa P.length kp) ∧ U'.cell? ⟨V.heap.size, 5, none⟩ = some (.slice Ta T.length kt)) : World → Prop) _ := ALL.out _ ((HQ6'.out.trans Hq8.out).alloc (Obj.cells #[.slice none 0 0, .slice none 0 0, .slice none 0 0, .slice none 0 0, .slice none 0 0, .slice none 0 0] 31))
            refine hK.out _ _ (fun _ => hHeld) ?_
            clear hK K
            try simp only [Act.put, List.setIfInBounds_toArray, List.set_cons_zero, List.set_cons_succ]
            have hx : BoxW (w8.alloc (Obj.cells #[.slice none 0 0, .slice none 0 0, .slice none 0 0, .slice none 0 0, .slice none 0 0, .slice none 0 0] 31)) (w8.heap.size) (.slice none 0 0) (.slice none 0 0) (.slice none 0 0) (.slice none 0 0) (.slice none 0 0) (.slice none 0 0) := BoxW.new w8 (.slice none 0 0) (.slice none 0 0) (.slice none 0 0) (.slice none 0 0) (.slice none 0 0) (.slice none 0 0) 31
            have HX := Lib.hid hx
            have x0 := hx.c.c0
            have x1 := hx.c.c1
            have x2 := hx.c.c2
            have x3 := hx.c.c3
            have x4 := hx.c.c4
            have x5 := hx.c.c5
            have xf0 := hx.f0
            have xf1 := hx.f1
            have xf2 := hx.f2
            have xf3 := hx.f3
            have xf4 := hx.f4
            have xf5 := hx.f5
            clear hx
            refine call_t (i := 9) rfl (by kernel_rfl) (by rfl) (fun K hK => ?_)
            go_simp
            refine hK.out _ _ (fun hz => by cases hz) ?_
            clear hK K
            try simp only [Act.put, List.setIfInBounds_toArray, List.set_cons_zero, List.set_cons_succ]
            clear x0 x1 x2 x3 x4 x5 xf0 xf1 xf2 xf3 xf4 xf5
            refine call_t (i := 10) rfl (by kernel_rfl) (by rfl) (fun K hK => ?_)
            go_simp
            refine hK.out _ _ (fun hz => by cases hz) ?_
            clear hK K
            try simp only [Act.put, List.setIfInBounds_toArray, List.set_cons_zero, List.set_cons_succ]
            refine done_t (by kernel_rfl) ?_ _
            have HB6 : Hid (Box6 (w8.alloc (Obj.cells #[.slice F6 R.length cr6, .slice A6 c.V.length l61, .slice D6 c.N.length l62, .slice E6 c.M.length l63, .slice P6 P.length lp6, .slice T6 T.length lt6] 31)) w8.heap.size (.slice F6 R.length cr6) (.slice A6 c.V.length l61) (.slice D6 c.N.length l62) (.slice E6 c.M.length l63) (.slice P6 P.length lp6) (.slice T6 T.length lt6)) := Lib.hid (Box6.new w8 (.slice F6 R.length cr6) (.slice A6 c.V.length l61) (.slice D6 c.N.length l62) (.slice E6 c.M.length l63) (.slice P6 P.length lp6) (.slice T6 T.length lt6) 31)
            have Hq9 : Hid (Q u6 (w8.alloc (Obj.cells #[.slice F6 R.length cr6, .slice A6 c.V.length l61, .slice D6 c.N.length l62, .slice E6 c.M.length l63, .slice P6 P.length lp6, .slice T6 T.length lt6] 31))) := Lib.hid (Hq8.out.alloc (Obj.cells #[.slice F6 R.length cr6, .slice A6 c.V.length l61, .slice D6 c.N.length l62, .slice E6 c.M.length l63, .slice P6 P.length lp6, .slice T6 T.length lt6] 31))
            have HG6' : Hid (GRP (w8.alloc (Obj.cells #[.slice F6 R.length cr6, .slice A6 c.V.length l61, .slice D6 c.N.length l62, .slice E6 c.M.length l63, .slice P6 P.length lp6, .slice T6 T.length lt6] 31)) (fun b => b < (w8.alloc (Obj.cells #[.slice F6 R.length cr6, .slice A6 c.V.length l61, .slice D6 c.N.length l62, .slice E6 c.M.length l63, .slice P6 P.length lp6, .slice T6 T.length lt6] 31)).heap.size) R c P T F6 A6 D6 E6 P6 T6 cr6 l61 l62 l63 lp6 lt6) := Lib.hid ((HG6.out.q ((Q.refl w8).alloc (Obj.cells #[.slice F6 R.length cr6, .slice A6 c.V.length l61, .slice D6 c.N.length l62, .slice E6 c.M.length l63, .slice P6 P.length lp6, .slice T6 T.length lt6] 31))).to (agree_q (Q.refl _)) (fun b _ h => h))
            clear HX HG6 Hq8 Hq8l
            obtain ⟨B6, hB6⟩ : ∃ B6, B6 = w8.heap.size := ⟨_, rfl⟩
            rw [← hB6] at HB6 ⊢
            clear hB6
            generalize w8.alloc (Obj.cells #[.slice F6 R.length cr6, .slice A6 c.V.length l61, .slice D6 c.N.length l62, .slice E6 c.M.length l63, .slice P6 P.length lp6, .slice T6 T.length lt6] 31) = u7 at *
            have HQ7 := Lib.hid (HQ6'.out.trans Hq9.out)
            have HQw7 := Lib.hid (HQ0.out.trans HQ7.out)
            have HG57 := Lib.hid (HG5'.out.q Hq9.out)
            have HG47 := Lib.hid (HG45.out.q Hq9.out)
            have HB57 := Lib.hid (HB5.out.q Hq9.out)
            have HB47 := Lib.hid (HB45.out.q Hq9.out)
            clear HG5' HG45 HB5 HB45 HQ6' Hq9
            have CS1 := Lib.hid (fun (U : World) (q : Q u7 U) => refSame12_any R c2 P2 T2 F4 A4 D4 E4 P4 T4 F5 A5 D5 E5 P5 T5 _ cr4 _ l41 _ l42 _ l43 _ lp4 _ lt4 _ cr5 _ l51 _ l52 _ l53 _ lp5 _ lt5 U rfl rfl rfl rfl rfl rfl rfl rfl rfl rfl rfl rfl (HG47.out.q q).r.rds (HG47.out.q q).rd (HG47.out.q q).p.keys (HG47.out.q q).t.keys (HG57.out.q q).r.rds (HG57.out.q q).rd (HG57.out.q q).p.keys (HG57.out.q q).t.keys (by have := HHF.out.1; unfold maxLen; omega) ⟨by have := HHF.out.2.1.1; omega, by have := HHF.out.2.1.2.1; omega, by have := HHF.out.2.1.2.2; omega⟩ (by have := HHF.out.2.2.1; unfold maxLen; omega) (by have := HHF.out.2.2.2.1; unfold maxLen; omega) (fun k hk => by have := HHF.out.2.2.2.2.1 k hk; unfold maxLen; omega) (fun k hk => by have := HHF.out.2.2.2.2.2 k hk; unfold maxLen; omega))
            have CS2 := Lib.hid (fun (U : World) (q : Q u7 U) => refSame12_any R c P T F Av D E Pa Ta F6 A6 D6 E6 P6 T6 _ cr _ k1 _ k2 _ k3 _ kp _ kt _ cr6 _ l61 _ l62 _ l63 _ lp6 _ lt6 U rfl rfl rfl rfl rfl rfl rfl rfl rfl rfl rfl rfl (HGa.out.r.q (HQw7.out.trans q)) (HGa.out.u.q (HQw7.out.trans q)) ((HGa.out.p.q (Nat.le_refl _) (HQw7.out.trans q)).more (HQw7.out.trans q).size) ((HGa.out.t.q (Nat.le_refl _) (HQw7.out.trans q)).more (HQw7.out.trans q).size) (HG6'.out.q q).r.rds (HG6'.out.q q).rd (HG6'.out.q q).p.keys (HG6'.out.q q).t.keys (by have := HF.out.1; unfold maxLen; omega) ⟨by have := HF.out.2.1.1; omega, by have := HF.out.2.1.2.1; omega, by have := HF.out.2.1.2.2; omega⟩ (by have := HF.out.2.2.1; unfold maxLen; omega) (by have := HF.out.2.2.2.1; unfold maxLen; omega) (fun k hk => by have := HF.out.2.2.2.2.1 k hk; unfold maxLen; omega) (fun k hk => by have := HF.out.2.2.2.2.2 k hk; unfold maxLen; omega))
            have ALF : Hid (∀ U', Q u7 U' → (fun U' => U'.cell? ⟨W.heap.size, 0, none⟩ = some (.slice A ks.length ca) ∧ U'.cell? ⟨W.heap.size, 1, none⟩ = some (.slice S sl.length d) ∧ U'.cell? ⟨V.heap.size, 0, none⟩ = some (.slice F R.length cr) ∧ U'.cell? ⟨V.heap.size, 1, none⟩ = some (.slice Av c.V.length k1) ∧ U'.cell? ⟨V.heap.size, 2, none⟩ = some (.slice D c.N.length k2) ∧ U'.cell? ⟨V.heap.size, 3, none⟩ = some (.slice E c.M.length k3) ∧ U'.cell? ⟨V.heap.size, 4, none⟩ = some (.slice Pa P.length kp) ∧ U'.cell? ⟨V.heap.size, 5, none⟩ = some (.slice Ta T.length kt) ∧ U'.cell? ⟨B4, 0, none⟩ = some (.slice F4 R.length cr4) ∧ U'.cell? ⟨B4, 1, none⟩ = some (.slice A4 c2.V.length l41) ∧ U'.cell? ⟨B4, 2, none⟩ = some (.slice D4 c2.N.length l42) ∧ U'.cell? ⟨B4, 3, none⟩ = some (.slice E4 c2.M.length l43) ∧ U'.cell? ⟨B4, 4, none⟩ = some (.slice P4 P2.length lp4) ∧ U'.cell? ⟨B4, 5, none⟩ = some (.slice T4 T2.length lt4) ∧ U'.cell? ⟨B5, 0, none⟩ = some (.slice F5 R.length cr5) ∧ U'.cell? ⟨B5, 1, none⟩ = some (.slice A5 c2.V.length l51) ∧ U'.cell? ⟨B5, 2, none⟩ = some (.slice D5 c2.N.length l52) ∧ U'.cell? ⟨B5, 3, none⟩ = some (.slice E5 c2.M.length l53) ∧ U'.cell? ⟨B5, 4, none⟩ = some (.slice P5 P2.length lp5) ∧ U'.cell? ⟨B5, 5, none⟩ = some (.slice T5 T2.length lt5) ∧ U'.cell? ⟨B6, 0, none⟩ = some (.slice F6 R.length cr6) ∧ U'.cell? ⟨B6, 1, none⟩ = some (.slice A6 c.V.length l61) ∧ U'.cell? ⟨B6, 2, none⟩ = some (.slice D6 c.N.length l62) ∧ U'.cell? ⟨B6, 3, none⟩ = some (.slice E6 c.M.length l63) ∧ U'.cell? ⟨B6, 4, none⟩ = some (.slice P6 P.length lp6) ∧ U'.cell? ⟨B6, 5, none⟩ = some (.slice T6 T.length lt6)) U') := fun U' q => by
              obtain ⟨s0, s1, s2, s3, s4, s5, s6, s7⟩ := ALL.out U' (HQ7.out.trans q)
              obtain ⟨m0, m1, m2, m3, m4, m5, -⟩ := HB47.out.q q
              obtain ⟨n0, n1, n2, n3, n4, n5, -⟩ := HB57.out.q q
              obtain ⟨o0, o1, o2, o3, o4, o5, -⟩ := HB6.out.q q
              exact ⟨s0, s1, s2, s3, s4, s5, s6, s7, m0, m1, m2, m3, m4, m5, n0, n1, n2, n3, n4, n5, o0, o1, o2, o3, o4, o5⟩
            clear HGa HF HHF HG57 HG47 HB57 HB47 HB6 HG6' CM
            obtain ⟨s0, s1, s2, s3, s4, s5, s6, s7⟩ := ALL.out u7 HQ7.out
            obtain ⟨-, -, -, -, -, -, -, -, m0, m1, m2, m3, m4, m5, n0, n1, n2, n3, n4, n5, o0, o1, o2, o3, o4, o5⟩ := ALF.out u7 (Q.refl u7)
            go_upto_region 11 with fail
            go_wp2_with (first
              | (go_at_call 24; (with_reducible refine (CS1.out u7 (Q.refl u7)).mono ?_); rintro e w9 ⟨rfl, q9⟩; have HQ9 : Hid (Q u7 w9) := Lib.hid q9; clear q9 s0 s1 s2 s3 s4 s5 s6 s7 m0 m1 m2 m3 m4 m5 n0 n1 n2 n3 n4 n5 o0 o1 o2 o3 o4 o5; obtain ⟨s0, s1, s2, s3, s4, s5, s6, s7, -, -, -, -, -, -, -, -, -, -, -, -, o0, o1, o2, o3, o4, o5⟩ := ALF.out w9 HQ9.out)
              | (go_at_call 24; (with_reducible refine (CS2.out w9 HQ9.out).mono ?_); rintro e w10 ⟨rfl, q10⟩; have HQ10 := Lib.hid (HQ9.out.trans q10); clear q10)
              | fail)
            go_ret
            exact ⟨by first | rfl | simp, HQ0.out.trans (HQ7.out.trans HQ10.out)⟩
          · go_simp
            have hHeld : ((fun U' => U'.cell? ⟨W.heap.size, 0, none⟩ = some (.slice A ks.length ca) ∧ U'.cell? ⟨W.heap.size, 1, none⟩ = some (.slice S sl.length d) ∧ U'.cell? ⟨V.heap.size, 0, none⟩ = some (.slice F R.length cr) ∧ U'.cell? ⟨V.heap.size, 1, none⟩ = some (.slice Av c.V.length k1) ∧ U'.cell? ⟨V.heap.size, 2, none⟩ = some (.slice D c.N.length k2) ∧ U'.cell? ⟨V.heap.size, 3, none⟩ = some (.slice E c.M.length k3) ∧ U'.cell? ⟨V.heap.size, 4, none⟩ = some (.slice Pa P.length kp) ∧ U'.cell? ⟨V.heap.size, 5, none⟩ = some (.slice Ta T.length kt)) : World → Prop) _ := ALL.out _ (HQ6'.out.trans ((Q.refl u6).drew.alloc (Obj.cells #[.slice none 0 0, .slice none 0 0, .slice none 0 0, .slice none 0 0, .slice none 0 0, .slice none 0 0] 31)))
            refine hK.out _ _ (fun _ => hHeld) ?_
            clear hK K
            try simp only [Act.put, List.setIfInBounds_toArray, List.set_cons_zero, List.set_cons_succ]
            refine call_t (i := 4) rfl (by kernel_rfl) (by rfl) (fun K hK => ?_)
            go_simp
            go_at_call 17
            refine (CM.out _ (HQ0.out.trans (HQ6'.out.trans ((Q.refl u6).drew.alloc (Obj.cells #[.slice none 0 0, .slice none 0 0, .slice none 0 0, .slice none 0 0, .slice none 0 0, .slice none 0 0] 31))))).mono ?_
            rintro e w8 ⟨F6, A6, D6, E6, P6, T6, cr6, l61, l62, l63, lp6, lt6, v6, rfl, hg6, hv6, q8⟩
            unfold gvP
            obtain ⟨X6, y6, rfl, -, -⟩ := Rw.own_read hv6
            have HG6 := Lib.hid hg6
            have Hq8 : Hid (Q u6 w8) := Lib.hid (((Q.refl u6).drew.alloc (Obj.cells #[.slice none 0 0, .slice none 0 0, .slice none 0 0, .slice none 0 0, .slice none 0 0, .slice none 0 0] 31)).trans q8)
            have Hq8l := Lib.hid q8
            clear hg6 hv6 q8
            have hHeld : ((fun U' => U'.cell? ⟨W.heap.size, 0, none⟩ = some (.slice A ks.length ca) ∧ U'.cell? ⟨W.heap.size, 1, none⟩ = some (.slice S sl.length d) ∧ U'.cell? ⟨V.heap.size, 0, none⟩ = some (.slice F R.length cr) ∧ U'.cell? ⟨V.heap.size, 1, none⟩ = some (.slice Av c.V.length k1) ∧ U'.cell? ⟨V.heap.size, 2, none⟩ = some (.slice D c.N.length k2) ∧ U'.cell? ⟨V.heap.size, 3, none⟩ = some (.slice E c.M.length k3) ∧ U'.cell? ⟨V.heap.size, 4, none⟩ = some (.slice Pa P.length kp) ∧ U'.cell? ⟨V.heap.size, 5, none⟩ = some (.slice Ta T.length kt)) : World → Prop) _ := ALL.out _ (HQ6'.out.trans Hq8.out)
            refine hK.out _ _ (fun _ => hHeld) ?_
            clear hK K
            try simp only [Act.put, List.setIfInBounds_toArray, List.set_cons_zero, List.set_cons_succ]
            refine take_y (i := 5) (d := some 59) (v := ?_) rfl (by kernel_rfl) (by kernel_rfl) (by kernel_rfl) (by kernel_rfl) (fun _ _ _ h => h) rfl (by rfl) ?_ (by assumption) ?_
            rotate_left
            · (intro w; go_simp; (try with_reducible rfl))
            try simp only [Act.put, List.setIfInBounds_toArray, List.set_cons_zero, List.set_cons_succ]
            refine take_y (i := 6) (d := some 65) (v := ?_) rfl (by kernel_rfl) (by kernel_rfl) (by kernel_rfl) (by kernel_rfl) (fun _ _ _ h => h) rfl (by rfl) ?_ (by assumption) ?_
            rotate_left
            · (intro w; go_simp; (try with_reducible rfl))
            try simp only [Act.put, List.setIfInBounds_toArray, List.set_cons_zero, List.set_cons_succ]
            refine take_y (i := 7) (d := some 66) (v := ?_) rfl (by kernel_rfl) (by kernel_rfl) (by kernel_rfl) (by kernel_rfl) (fun _ _ _ h => h) rfl (by rfl) ?_ (by assumption) ?_
            rotate_left
            · (intro w; go_simp; (try with_reducible rfl))
            try simp only [Act.put, List.setIfInBounds_toArray, List.set_cons_zero, List.set_cons_succ]
            have hx : BoxW (w8) (u6.heap.size) (.slice none 0 0) (.slice none 0 0) (.slice none 0 0) (.slice none 0 0) (.slice none 0 0) (.slice none 0 0) := (BoxW.new u6.drew (.slice none 0 0) (.slice none 0 0) (.slice none 0 0) (.slice none 0 0) (.slice none 0 0) (.slice none 0 0) 31).q Hq8l.out
            have HX := Lib.hid hx
            have x0 := hx.c.c0
            have x1 := hx.c.c1
            have x2 := hx.c.c2
            have x3 := hx.c.c3
            have x4 := hx.c.c4
            have x5 := hx.c.c5
            have xf0 := hx.f0
            have xf1 := hx.f1
            have xf2 := hx.f2
            have xf3 := hx.f3
            have xf4 := hx.f4
            have xf5 := hx.f5
            clear hx
            refine call_t (i := 9) rfl (by kernel_rfl) (by rfl) (fun K hK => ?_)
            go_simp
            refine hK.out _ _ (fun hz => by cases hz) ?_
            clear hK K
            try simp only [Act.put, List.setIfInBounds_toArray, List.set_cons_zero, List.set_cons_succ]
            clear x0 x1 x2 x3 x4 x5 xf0 xf1 xf2 xf3 xf4 xf5
            refine call_t (i := 10) rfl (by kernel_rfl) (by rfl) (fun K hK => ?_)
            go_simp
            refine hK.out _ _ (fun hz => by cases hz) ?_
            clear hK K
            try simp only [Act.put, List.setIfInBounds_toArray, List.set_cons_zero, List.set_cons_succ]
            refine done_t (by kernel_rfl) ?_ _
            have gw := set6_grown w8 u6.heap.size (.slice F6 R.length cr6) (.slice A6 c.V.length l61) (.slice D6 c.N.length l62) (.slice E6 c.M.length l63) (.slice P6 P.length lp6) (.slice T6 T.length lt6)
            have HB6 : Hid (Box6 ((((((w8.setCell ⟨u6.heap.size, 0, none⟩ (.slice F6 R.length cr6)).setCell ⟨u6.heap.size, 1, none⟩ (.slice A6 c.V.length l61)).setCell ⟨u6.heap.size, 2, none⟩ (.slice D6 c.N.length l62)).setCell ⟨u6.heap.size, 3, none⟩ (.slice E6 c.M.length l63)).setCell ⟨u6.heap.size, 4, none⟩ (.slice P6 P.length lp6)).setCell ⟨u6.heap.size, 5, none⟩ (.slice T6 T.length lt6)) u6.heap.size (.slice F6 R.length cr6) (.slice A6 c.V.length l61) (.slice D6 c.N.length l62) (.slice E6 c.M.length l63) (.slice P6 P.length lp6) (.slice T6 T.length lt6)) := Lib.hid (HX.out.set (.slice F6 R.length cr6) (.slice A6 c.V.length l61) (.slice D6 c.N.length l62) (.slice E6 c.M.length l63) (.slice P6 P.length lp6) (.slice T6 T.length lt6)).c
            have Hq9 : Hid (Q u6 ((((((w8.setCell ⟨u6.heap.size, 0, none⟩ (.slice F6 R.length cr6)).setCell ⟨u6.heap.size, 1, none⟩ (.slice A6 c.V.length l61)).setCell ⟨u6.heap.size, 2, none⟩ (.slice D6 c.N.length l62)).setCell ⟨u6.heap.size, 3, none⟩ (.slice E6 c.M.length l63)).setCell ⟨u6.heap.size, 4, none⟩ (.slice P6 P.length lp6)).setCell ⟨u6.heap.size, 5, none⟩ (.slice T6 T.length lt6))) := Lib.hid (Tr.grown_q gw Hq8.out (Nat.le_refl _))
            have HG6' : Hid (GRP ((((((w8.setCell ⟨u6.heap.size, 0, none⟩ (.slice F6 R.length cr6)).setCell ⟨u6.heap.size, 1, none⟩ (.slice A6 c.V.length l61)).setCell ⟨u6.heap.size, 2, none⟩ (.slice D6 c.N.length l62)).setCell ⟨u6.heap.size, 3, none⟩ (.slice E6 c.M.length l63)).setCell ⟨u6.heap.size, 4, none⟩ (.slice P6 P.length lp6)).setCell ⟨u6.heap.size, 5, none⟩ (.slice T6 T.length lt6)) (fun b => b < ((((((w8.setCell ⟨u6.heap.size, 0, none⟩ (.slice F6 R.length cr6)).setCell ⟨u6.heap.size, 1, none⟩ (.slice A6 c.V.length l61)).setCell ⟨u6.heap.size, 2, none⟩ (.slice D6 c.N.length l62)).setCell ⟨u6.heap.size, 3, none⟩ (.slice E6 c.M.length l63)).setCell ⟨u6.heap.size, 4, none⟩ (.slice P6 P.length lp6)).setCell ⟨u6.heap.size, 5, none⟩ (.slice T6 T.length lt6)).heap.size) R c P T F6 A6 D6 E6 P6 T6 cr6 l61 l62 l63 lp6 lt6) := Lib.hid ((HG6.out.to (agree_grown gw (by simp)) (fun b _ h => Nat.lt_of_lt_of_le h gw.size)))
            clear HX HG6 Hq8 Hq8l gw
            generalize ((((((w8.setCell ⟨u6.heap.size, 0, none⟩ (.slice F6 R.length cr6)).setCell ⟨u6.heap.size, 1, none⟩ (.slice A6 c.V.length l61)).setCell ⟨u6.heap.size, 2, none⟩ (.slice D6 c.N.length l62)).setCell ⟨u6.heap.size, 3, none⟩ (.slice E6 c.M.length l63)).setCell ⟨u6.heap.size, 4, none⟩ (.slice P6 P.length lp6)).setCell ⟨u6.heap.size, 5, none⟩ (.slice T6 T.length lt6)) = u7 at *
            obtain ⟨B6, hB6⟩ : ∃ B6, B6 = u6.heap.size := ⟨_, rfl⟩
            rw [← hB6] at HB6 ⊢
            clear hB6
            have HQ7 := Lib.hid (HQ6'.out.trans Hq9.out)
            have HQw7 := Lib.hid (HQ0.out.trans HQ7.out)
            have HG57 := Lib.hid (HG5'.out.q Hq9.out)
            have HG47 := Lib.hid (HG45.out.q Hq9.out)
            have HB57 := Lib.hid (HB5.out.q Hq9.out)
            have HB47 := Lib.hid (HB45.out.q Hq9.out)
            clear HG5' HG45 HB5 HB45 HQ6' Hq9
            have CS1 := Lib.hid (fun (U : World) (q : Q u7 U) => refSame12_any R c2 P2 T2 F4 A4 D4 E4 P4 T4 F5 A5 D5 E5 P5 T5 _ cr4 _ l41 _ l42 _ l43 _ lp4 _ lt4 _ cr5 _ l51 _ l52 _ l53 _ lp5 _ lt5 U rfl rfl rfl rfl rfl rfl rfl rfl rfl rfl rfl rfl (HG47.out.q q).r.rds (HG47.out.q q).rd (HG47.out.q q).p.keys (HG47.out.q q).t.keys (HG57.out.q q).r.rds (HG57.out.q q).rd (HG57.out.q q).p.keys (HG57.out.q q).t.keys (by have := HHF.out.1; unfold maxLen; omega) ⟨by have := HHF.out.2.1.1; omega, by have := HHF.out.2.1.2.1; omega, by have := HHF.out.2.1.2.2; omega⟩ (by have := HHF.out.2.2.1; unfold maxLen; omega) (by have := HHF.out.2.2.2.1; unfold maxLen; omega) (fun k hk => by have := HHF.out.2.2.2.2.1 k hk; unfold maxLen; omega) (fun k hk => by have := HHF.out.2.2.2.2.2 k hk; unfold maxLen; omega))
            have CS2 := Lib.hid (fun (U : World) (q : Q u7 U) => refSame12_any R c P T F Av D E Pa Ta F6 A6 D6 E6 P6 T6 _ cr _ k1 _ k2 _ k3 _ kp _ kt _ cr6 _ l61 _ l62 _ l63 _ lp6 _ lt6 U rfl rfl rfl rfl rfl rfl rfl rfl rfl rfl rfl rfl (HGa.out.r.q (HQw7.out.trans q)) (HGa.out.u.q (HQw7.out.trans q)) ((HGa.out.p.q (Nat.le_refl _) (HQw7.out.trans q)).more (HQw7.out.trans q).size) ((HGa.out.t.q (Nat.le_refl _) (HQw7.out.trans q)).more (HQw7.out.trans q).size) (HG6'.out.q q).r.rds (HG6'.out.q q).rd (HG6'.out.q q).p.keys (HG6'.out.q q).t.keys (by have := HF.out.1; unfold maxLen; omega) ⟨by have := HF.out.2.1.1; omega, by have := HF.out.2.1.2.1; omega, by have := HF.out.2.1.2.2; omega⟩ (by have := HF.out.2.2.1; unfold maxLen; omega) (by have := HF.out.2.2.2.1; unfold maxLen; omega) (fun k hk => by have := HF.out.2.2.2.2.1 k hk; unfold maxLen; omega) (fun k hk => by have := HF.out.2.2.2.2.2 k hk; unfold maxLen; omega))
            have ALF : Hid (∀ U', Q u7 U' → (fun U' => U'.cell? ⟨W.heap.size, 0, none⟩ = some (.slice A ks.length ca) ∧ U'.cell? ⟨W.heap.size, 1, none⟩ = some (.slice S sl.length d) ∧ U'.cell? ⟨V.heap.size, 0, none⟩ = some (.slice F R.length cr) ∧ U'.cell? ⟨V.heap.size, 1, none⟩ = some (.slice Av c.V.length k1) ∧ U'.cell? ⟨V.heap.size, 2, none⟩ = some (.slice D c.N.length k2) ∧ U'.cell? ⟨V.heap.size, 3, none⟩ = some (.slice E c.M.length k3) ∧ U'.cell? ⟨V.heap.size, 4, none⟩ = some (.slice Pa P.length kp) ∧ U'.cell? ⟨V.heap.size, 5, none⟩ = some (.slice Ta T.length kt) ∧ U'.cell? ⟨B4, 0, none⟩ = some (.slice F4 R.length cr4) ∧ U'.cell? ⟨B4, 1, none⟩ = some (.slice A4 c2.V.length l41) ∧ U'.cell? ⟨B4, 2, none⟩ = some (.slice D4 c2.N.length l42) ∧ U'.cell? ⟨B4, 3, none⟩ = some (.slice E4 c2.M.length l43) ∧ U'.cell? ⟨B4, 4, none⟩ = some (.slice P4 P2.length lp4) ∧ U'.cell? ⟨B4, 5, none⟩ = some (.slice T4 T2.length lt4) ∧ U'.cell? ⟨B5, 0, none⟩ = some (.slice F5 R.length cr5) ∧ U'.cell? ⟨B5, 1, none⟩ = some (.slice A5 c2.V.length l51) ∧ U'.cell? ⟨B5, 2, none⟩ = some (.slice D5 c2.N.length l52) ∧ U'.cell? ⟨B5, 3, none⟩ = some (.slice E5 c2.M.length l53) ∧ U'.cell? ⟨B5, 4, none⟩ = some (.slice P5 P2.length lp5) ∧ U'.cell? ⟨B5, 5, none⟩ = some (.slice T5 T2.length lt5) ∧ U'.cell? ⟨B6, 0, none⟩ = some (.slice F6 R.length cr6) ∧ U'.cell? ⟨B6, 1, none⟩ = some (.slice A6 c.V.length l61) ∧ U'.cell? ⟨B6, 2, none⟩ = some (.slice D6 c.N.length l62) ∧ U'.cell? ⟨B6, 3, none⟩ = some (.slice E6 c.M.length l63) ∧ U'.cell? ⟨B6, 4, none⟩ = some (.slice P6 P.length lp6) ∧ U'.cell? ⟨B6, 5, none⟩ = some (.slice T6 T.length lt6)) U') := fun U' q => by
              obtain ⟨s0, s1, s2, s3, s4, s5, s6, s7⟩ := ALL.out U' (HQ7.out.trans q)
              obtain ⟨m0, m1, m2, m3, m4, m5, -⟩ := HB47.out.q q
              obtain ⟨n0, n1, n2, n3, n4, n5, -⟩ := HB57.out.q q
              obtain ⟨o0, o1, o2, o3, o4, o5, -⟩ := HB6.out.q q
              exact ⟨s0, s1, s2, s3, s4, s5, s6, s7, m0, m1, m2, m3, m4, m5, n0, n1, n2, n3, n4, n5, o0, o1, o2, o3, o4, o5⟩
            clear HGa HF HHF HG57 HG47 HB57 HB47 HB6 HG6' CM
            obtain ⟨s0, s1, s2, s3, s4, s5, s6, s7⟩ := ALL.out u7 HQ7.out
            obtain ⟨-, -, -, -, -, -, -, -, m0, m1, m2, m3, m4, m5, n0, n1, n2, n3, n4, n5, o0, o1, o2, o3, o4, o5⟩ := ALF.out u7 (Q.refl u7)
            go_upto_region 11 with fail
            go_wp2_with (first
              | (go_at_call 24; (with_reducible refine (CS1.out u7 (Q.refl u7)).mono ?_); rintro e w9 ⟨rfl, q9⟩; have HQ9 : Hid (Q u7 w9) := Lib.hid q9; clear q9 s0 s1 s2 s3 s4 s5 s6 s7 m0 m1 m2 m3 m4 m5 n0 n1 n2 n3 n4 n5 o0 o1 o2 o3 o4 o5; obtain ⟨s0, s1, s2, s3, s4, s5, s6, s7, -, -, -, -, -, -, -, -, -, -, -, -, o0, o1, o2, o3, o4, o5⟩ := ALF.out w9 HQ9.out)
              | (go_at_call 24; (with_reducible refine (CS2.out w9 HQ9.out).mono ?_); rintro e w10 ⟨rfl, q10⟩; have HQ10 := Lib.hid (HQ9.out.trans q10); clear q10)
              | fail)
            go_ret
            exact ⟨by first | rfl | simp, HQ0.out.trans (HQ7.out.trans HQ10.out)⟩

set_option maxRecDepth 100000 in
theorem lifted (os : Os) (started : os.Started) (H : Type) (enc : TypeId × Value → H) :
    ReturnsInHanded {} Tryz.checked os 5 .any (Rows.cycOnceSpec.pre6 enc Tryz.prog Tryz.f5 Rows.cycOnceRow.domain false) (Rows.cycOnceSpec.post enc Tryz.prog Tryz.f5 false true false false) := by
  refine returnsInHanded_of_change_sized (C := Tryz.checked) own started (by kernel_rfl) Tryz.func5
    (ChangeSpec.witness6 (enc := enc) (C := Tryz.checked) false ⟨#[], #[.agg #[.slice none 0 0, .slice none 0 0, .slice none 0 0, .slice none 0 0, .slice none 0 0, .slice none 0 0, .slice none 0 0, .slice none 0 0, .slice none 0 0, .slice none 0 0]], []⟩ 8 (by kernel_rfl) (by kernel_rfl) (by kernel_rfl) (by kernel_rfl)) ?_
  intro W base args ds gs before hval0 hW hcnd hsz0 _
  have hval : ∀ (j : Nat) t v, Tryz.f5.params[j]? = some t → args[j]? = some v → Value.okWide Tryz.prog W .any base t v := hval0
  have hW' := hW
  obtain ⟨p, q, hA0, hV, rfl, hfz, hnd⟩ := hW
  have hA : DataW.TrodAll enc Tryz.prog W 0 (fun _ => true) true Tryz.f5.params.toList args.toList ds p := hA0
  rw [Tryz.params5] at hA hval
  obtain ⟨v0, vs0, d0, ds0, p0, q0, hargs, rfl, rfl, h0, r0⟩ := trodAll_cons hA
  obtain ⟨rfl, rfl, rfl⟩ := trodAll_nil r0
  obtain rfl : args = #[v0] := by cases args; simp_all
  obtain ⟨rfl, rfl⟩ := trodVars_none hV
  have z0 : ∀ n ∈ d0.weights Tryz.prog 51, n ≤ reachBytes := fun n hn => by
    have := List.all_eq_true.1 hsz0 n (DataW.weights_mem_each (j := 0) (t := 51) (d := d0) (by rw [Tryz.params5]; rfl) rfl n hn)
    simpa using this
  obtain ⟨L0, A, S, F, Av, D, E, Pa, Ta, nl, cl, n, ca, m, d, cr, k1, k2, k3, kp, kt, l, ks, sl, R, c, P, T, B, nq, eq, r, rfl, hnl, hr, hll, hsz, hn, hm, hk, hSi, hl, hs, hsl, hG, hq, hB, hr9, hqe⟩ := open_CycOnceIn (hval 0 51 v0 rfl rfl) h0 z0
  clear hA0 hval0
  refine (walk L0 A S F Av D E Pa Ta nl cl n ca m d cr k1 k2 k3 kp kt l ks sl R c P T B nq eq r _ hnl hr hll hsz hn hm hk hSi hl hs hsl hG hq hB hr9 hqe).mono fun e W' ⟨he, hg⟩ => ?_
  subst he
  exact ⟨_, rfl, post_law laid (by rw [Tryz.params5]; decide +kernel) rfl rfl (by kernel_rfl) Tryz.underlying4 hW' hg⟩

/-- THE STATEMENT -/
theorem proved : Rows.CycOnceSaid :=
  OpenClaim.holds_of_wide 5 Tryz.f5 rfl rfl rfl rfl rfl rfl rfl ⟨rfl, rfl, rfl, rfl, rfl⟩ rfl rfl rfl rfl rfl (by kernel_rfl) Tryz.func5 facts
    (of_decide_eq_true (by kernel_rfl)) (by unfold Func.isWrapper; first | (rw [if_pos (by decide +kernel)]; kernel_rfl) | (rw [if_neg (by decide +kernel)]; exact ⟨rfl, rfl⟩))
    (fun os started H enc _ => lifted os started H enc)
end Go.Proofs.YtnifmfdlocgefaaGreat.cycOnce
