/-
  IfgJoins holds.
-/
import Derived.Test.YtjmopbimleoidaaGreatPf
import Derived.Test.YtjmopbimleoidaaGreatPg
import Derived.Test.YtjmopbimleoidaaGreatPi
import Derived.Test.YtjmopbimleoidaaGreatPk
import Derived.Test.YtjmopbimleoidaaGreatPl
import Derived.Test.YtjmopbimleoidaaGreatRows
import Derived.OpenShut
import Derived.RegionTactic
import Derived.Deep.CutBlock
namespace Go.Proofs.YtjmopbimleoidaaGreat.ifgJoins
open Go.ChangeShapes Go.WideShapes Go.ChangeAt Go.RowKit Kit Rw Ex Ig Tr Uf
open Go.Proofs.YtjmopbimleoidaaGreat.Sg (Sig Row Sized)
open Go.Proofs.YtjmopbimleoidaaGreat.Hs (Ints Keys BoxT layI KeysP IntsP)
open Go.Proofs.YtjmopbimleoidaaGreat.St (cellsQ sameQ sameQ_iff refPairsEq_any PI)
open Go.Proofs.YtjmopbimleoidaaGreat.ifgOnes (one_both)
theorem one_join {R : List Int} {c : Cells} {P T : List (List Int)} {ks : List (List Int)} {A S F Av D E Pa Ta : Option Addr} {ca d cr k1 k2 k3 kp kt : Nat} {w : World} {a b : Nat} (hk : Keys w w.heap.size A ks) (hS : Ints w w.heap.size S (layI ks)) (hO : OkS ks) (hG : GArg w R c P T F Av D E Pa Ta k1 k2 k3) (hl : (R.length ≤ 1000 ∧ Few c 1000 ∧ P.length ≤ 1000 ∧ T.length ≤ 1000 ∧ (∀ k ∈ P, k.length ≤ 1000) ∧ (∀ k ∈ T, k.length ≤ 1000))) (hC : Cl R c.V) (hp : P.length = c.V.length) (ht : T.length = c.V.length) (hA : allV ks c.V.length = true) (ha : a < c.V.length) (hb : b < c.V.length) :
    ∃ c2 P2 T2 l2, (fst c.V a = fst c.V b → c2 = c ∧ P2 = P ∧ T2 = T ∧ l2 = []) ∧ (fst c.V a ≠ fst c.V b → c2 = joinC R c a b ∧ P2 = P.set (hi R c.V a b) [] ∧ T2 = T.set (hi R c.V a b) [] ∧ l2 = comeV ks (joinC R c a b).V (rowG P (hi R c.V a b)) (rowG T (hi R c.V a b)) (atV ks (lo R c.V a b : Int))) ∧
      (∀ U, Q w U → Calls Tryz.prog 10 #[.agg #[.slice A ks.length ca, .slice S (layI ks).length d], .agg #[.slice F R.length cr, .slice Av c.V.length k1, .slice D c.N.length k2, .slice E c.M.length k3, .slice Pa P.length kp, .slice Ta T.length kt], .int .i64 (a : Int), .int .i64 (b : Int)] U fun e w' => ∃ F4 A4 D4 E4 P4 T4 cr4 l41 l42 l43 lp4 lt4 X4 y4, e = .returned (.tuple #[.agg #[.slice F4 R.length cr4, .slice A4 c.V.length l41, .slice D4 c2.N.length l42, .slice E4 c2.M.length l43, .slice P4 P.length lp4, .slice T4 T.length lt4], .slice X4 l2.length y4]) ∧ GRP w' (fun b => U.heap.size ≤ b) R c2 P2 T2 F4 A4 D4 E4 P4 T4 cr4 l41 l42 l43 lp4 lt4 ∧ Rw.Rds w' w'.heap.size X4 (cellsQ l2) ∧ Q U w') ∧
      c2.V.length = c.V.length ∧ P2.length = P.length ∧ T2.length = T.length ∧ Few c2 1001 ∧ (∀ k ∈ P2, k.length ≤ 1000) ∧ (∀ k ∈ T2, k.length ≤ 1000) ∧ l2.length ≤ 2000 := by
  obtain ⟨c2, P2, T2, l2, h1, h2, h3, _, h5, h6, h7, h8, h9, h10⟩ := one_both (ca := ca) (d := d) (cr := cr) (kp := kp) (kt := kt) hk hS hO hG hl hC hp ht hA ha hb
  have hlen : c2.V.length = c.V.length ∧ P2.length = P.length ∧ T2.length = T.length := by
    by_cases e : fst c.V a = fst c.V b
    · obtain ⟨e1, e2, e3, _⟩ := h1 e
      rw [e1, e2, e3]; exact ⟨rfl, rfl, rfl⟩
    · obtain ⟨e1, e2, e3, _⟩ := h2 e
      rw [e1, e2, e3, List.length_set, List.length_set]
      exact ⟨(joined (R := R) hC ha hb).len, rfl, rfl⟩
  refine ⟨c2, P2, T2, l2, h1, h2, fun U q => ?_, hlen.1, hlen.2.1, hlen.2.2, h5, h8, h9, h10⟩
  refine (h3 U q).mono ?_
  rintro e w' ⟨F4, A4, D4, E4, P4, T4, cr4, l41, l42, l43, lp4, lt4, v4, rfl, hg, hv, hq⟩
  obtain ⟨X4, y4, rfl, -, hx⟩ := Rw.own_read hv
  refine ⟨F4, A4, D4, E4, P4, T4, cr4, l41, l42, l43, lp4, lt4, X4, y4, ?_, hg, hx, hq⟩
  unfold gvP
  rw [hlen.1, hlen.2.1, hlen.2.2]
theorem come_at {ks : List (List Int)} {V : List Int} {p t : List Int} {f : Int} {i : Nat} {z : PI} (h : (comeV ks V p t f)[i]? = some z) : z.1 = f ∨ z.2 = f := by
  have hm := List.mem_of_getElem? h
  unfold comeV at hm
  rcases List.mem_append.1 hm with hm | hm
  · obtain ⟨y, _, rfl⟩ := List.mem_map.1 hm; exact .inr rfl
  · obtain ⟨y, _, rfl⟩ := List.mem_map.1 hm; exact .inl rfl
theorem come_at2 {ks : List (List Int)} {V : List Int} {p t : List Int} {f : Int} {l : List PI} (e : l = comeV ks V p t f) {i : Nat} {z : PI} (h : l[i]? = some z) : z.1 = f ∨ z.2 = f := by
  subst e
  exact come_at h
theorem come_len (ks : List (List Int)) (V : List Int) (p t : List Int) (f : Int) : (comeV ks V p t f).length = p.length + t.length := by
  unfold comeV; rw [List.length_append, List.length_map, List.length_map]
set_option maxRecDepth 100000 in
set_option maxHeartbeats 16000000 in
theorem walk (L0 A S F Av D E Pa Ta : Option Addr) (nl cl n ca m d cr k1 k2 k3 kp kt : Nat) (l : List Sig) (ks : List (List Int)) (sl : List Int) (R : List Int) (c : Cells) (P T : List (List Int)) (x y : Int) (w : World) (hnl : nl = l.length) (hr : Row w w.heap.size L0 l) (hll : l.length ≤ maxLen) (hsz : Sized l) (hn : n = ks.length) (hm : m = sl.length) (hk : Keys w w.heap.size A ks) (hSi : Ints w w.heap.size S sl) (hl : ks.length ≤ 1152921504606846976) (hs : ∀ k ∈ ks, k.length ≤ 1152921504606846976) (hsl : sl.length ≤ 1152921504606846976) (hG : GArg w R c P T F Av D E Pa Ta k1 k2 k3) :
    Calls Tryz.prog 4 #[.agg #[.slice L0 nl cl, .slice A n ca, .slice S m d, .slice F R.length cr, .slice Av c.V.length k1, .slice D c.N.length k2, .slice E c.M.length k3, .slice Pa P.length kp, .slice Ta T.length kt, .int .i64 x, .int .i64 y]] w fun e w' => e = .returned (.bool true) ∧ Q w w' := by
  subst hnl hn hm
  have HQ0 := Lib.hid ((((Q.refl w).alloc (Obj.cells #[.slice L0 l.length cl, .slice A ks.length ca, .slice S sl.length d, .slice F R.length cr, .slice Av c.V.length k1, .slice D c.N.length k2, .slice E c.M.length k3, .slice Pa P.length kp, .slice Ta T.length kt, .int .i64 x, .int .i64 y] 42)).alloc (Obj.cells #[Value.slice A ks.length ca, Value.slice S sl.length d] 26)).alloc (Obj.cells #[.slice F R.length cr, .slice Av c.V.length k1, .slice D c.N.length k2, .slice E c.M.length k3, .slice Pa P.length kp, .slice Ta T.length kt] 31))
  have HX := Lib.hid (own_new8 w [.slice L0 l.length cl, .slice A ks.length ca, .slice S sl.length d, .slice F R.length cr, .slice Av c.V.length k1, .slice D c.N.length k2, .slice E c.M.length k3, .slice Pa P.length kp, .slice Ta T.length kt, .int .i64 x, .int .i64 y] 42)
  have HT := Lib.hid ((BoxT.new (w.alloc (Obj.cells #[.slice L0 l.length cl, .slice A ks.length ca, .slice S sl.length d, .slice F R.length cr, .slice Av c.V.length k1, .slice D c.N.length k2, .slice E c.M.length k3, .slice Pa P.length kp, .slice Ta T.length kt, .int .i64 x, .int .i64 y] 42)) (Value.slice A ks.length ca) (Value.slice S sl.length d) 26).q ((Q.refl _).alloc (Obj.cells #[.slice F R.length cr, .slice Av c.V.length k1, .slice D c.N.length k2, .slice E c.M.length k3, .slice Pa P.length kp, .slice Ta T.length kt] 31)))
  have HG6 := Lib.hid (Box6.new ((w.alloc (Obj.cells #[.slice L0 l.length cl, .slice A ks.length ca, .slice S sl.length d, .slice F R.length cr, .slice Av c.V.length k1, .slice D c.N.length k2, .slice E c.M.length k3, .slice Pa P.length kp, .slice Ta T.length kt, .int .i64 x, .int .i64 y] 42)).alloc (Obj.cells #[Value.slice A ks.length ca, Value.slice S sl.length d] 26)) (.slice F R.length cr) (.slice Av c.V.length k1) (.slice D c.N.length k2) (.slice E c.M.length k3) (.slice Pa P.length kp) (.slice Ta T.length kt) 31)
  have HRow := Lib.hid hr
  have HKy := Lib.hid hk
  have HSl := Lib.hid hSi
  have HGa := Lib.hid hG
  have CF := Lib.hid (fun (U : World) (p : Q w U) => of12_any L0 A S F Av D E Pa Ta l.length cl ks.length ca sl.length d R.length cr c.V.length k1 c.N.length k2 c.M.length k3 P.length kp T.length kt l ks sl R c P T U rfl ((hr.q (Nat.le_refl _) p).more p.size) rfl rfl ((hk.q (Nat.le_refl _) p).more p.size) ((hSi.q (Nat.le_refl _) p).more p.size) hll hsz hl hs hsl rfl rfl rfl rfl rfl rfl ((hG.r.q p)) (hG.u.q p) ((hG.p.q (Nat.le_refl _) p).more p.size) ((hG.t.q (Nat.le_refl _) p).more p.size) hG.lR hG.lU.1 hG.lU.2.1 hG.lU.2.2 hG.lP hG.lT hG.sP hG.sT)
  clear hr hll hsz hk hSi hl hs hsl hG
  cases hof : of12B l ks sl R c P T
  · rw [hof] at CF
    clear hof HKy HSl HGa HRow
    go_enter Tryz.func4, Tryz.ntmps4
    go_upto_region 1 with fail
    generalize hW : w.alloc (Obj.cells #[.slice L0 l.length cl, .slice A ks.length ca, .slice S sl.length d, .slice F R.length cr, .slice Av c.V.length k1, .slice D c.N.length k2, .slice E c.M.length k3, .slice Pa P.length kp, .slice Ta T.length kt, .int .i64 x, .int .i64 y] 42) = W at *
    clear hW
    have x0 := (HX.out.2 0 _ rfl).1
    have x1 := (HX.out.2 1 _ rfl).1
    have x2 := (HX.out.2 2 _ rfl).1
    have HX2 := Lib.hid (HX.out.q ((Q.refl W).alloc (Obj.cells #[Value.slice A ks.length ca, Value.slice S sl.length d] 26)))
    go_upto_region 3 with fail
    generalize hV : W.alloc (Obj.cells #[Value.slice A ks.length ca, Value.slice S sl.length d] 26) = V at *
    clear hV x0 x1 x2
    have x3 := (HX2.out.2 3 _ rfl).1
    have x4 := (HX2.out.2 4 _ rfl).1
    have x5 := (HX2.out.2 5 _ rfl).1
    have x6 := (HX2.out.2 6 _ rfl).1
    have x7 := (HX2.out.2 7 _ rfl).1
    have x8 := (HX2.out.2 8 _ rfl).1
    have HX3 := Lib.hid (HX2.out.q ((Q.refl V).alloc (Obj.cells #[.slice F R.length cr, .slice Av c.V.length k1, .slice D c.N.length k2, .slice E c.M.length k3, .slice Pa P.length kp, .slice Ta T.length kt] 31)))
    go_upto_region 4 with fail
    generalize hU : V.alloc (Obj.cells #[.slice F R.length cr, .slice Av c.V.length k1, .slice D c.N.length k2, .slice E c.M.length k3, .slice Pa P.length kp, .slice Ta T.length kt] 31) = U at *
    clear hU x3 x4 x5 x6 x7 x8
    have x9 := (HX3.out.2 9 _ rfl).1
    have x10 := (HX3.out.2 10 _ rfl).1
    go_upto_region 6 with fail
    clear x9 x10
    have ALL : Hid (∀ U', Q U U' → U'.cell? ⟨W.heap.size, 0, none⟩ = some (.slice A ks.length ca) ∧ U'.cell? ⟨W.heap.size, 1, none⟩ = some (.slice S sl.length d) ∧ U'.cell? ⟨V.heap.size, 0, none⟩ = some (.slice F R.length cr) ∧ U'.cell? ⟨V.heap.size, 1, none⟩ = some (.slice Av c.V.length k1) ∧ U'.cell? ⟨V.heap.size, 2, none⟩ = some (.slice D c.N.length k2) ∧ U'.cell? ⟨V.heap.size, 3, none⟩ = some (.slice E c.M.length k3) ∧ U'.cell? ⟨V.heap.size, 4, none⟩ = some (.slice Pa P.length kp) ∧ U'.cell? ⟨V.heap.size, 5, none⟩ = some (.slice Ta T.length kt)) := fun U' q => by
      have h1 := HT.out.q q
      have h2 := HG6.out.q q
      exact ⟨h1.c0, h1.c1, h2.c0, h2.c1, h2.c2, h2.c3, h2.c4, h2.c5⟩
    obtain ⟨s0, s1, s2, s3, s4, s5, s6, s7⟩ := ALL.out U (Q.refl _)
    have HQ1 : Hid (Q U U) := Lib.hid (Q.refl _)
    go_wp2_with (first
      | (go_at_call 8; (with_reducible refine (shown12_any U).mono ?_); rintro e w2 ⟨rfl, q1⟩; have HQ2 := Lib.hid (HQ1.out.trans q1); clear s0 s1 s2 s3 s4 s5 s6 s7 q1; obtain ⟨s0, s1, s2, s3, s4, s5, s6, s7⟩ := ALL.out w2 HQ2.out)
      | (go_at_call 9; (with_reducible refine (CF.out w2 (HQ0.out.trans HQ2.out)).mono ?_); rintro e w3 ⟨rfl, q2⟩; have HQ3 := Lib.hid (HQ2.out.trans q2); clear s0 s1 s2 s3 s4 s5 s6 s7 q2; obtain ⟨s0, s1, s2, s3, s4, s5, s6, s7⟩ := ALL.out w3 HQ3.out)
      | fail)
    go_ret
    exact ⟨rfl, HQ0.out.trans HQ3.out⟩
  · rw [hof] at CF
    obtain ⟨hO, hsl, hfew, hC, hp, ht, g6, hA⟩ := of12_plain hof
    clear hof
    by_cases h0 : x < 0
    · have d0 : decide (x < 0) = true := decide_eq_true h0
      clear g6 hO hsl hfew hC hp ht hA h0 HKy HSl HGa HRow
      go_enter Tryz.func4, Tryz.ntmps4
      go_upto_region 1 with fail
      generalize hW : w.alloc (Obj.cells #[.slice L0 l.length cl, .slice A ks.length ca, .slice S sl.length d, .slice F R.length cr, .slice Av c.V.length k1, .slice D c.N.length k2, .slice E c.M.length k3, .slice Pa P.length kp, .slice Ta T.length kt, .int .i64 x, .int .i64 y] 42) = W at *
      clear hW
      have x0 := (HX.out.2 0 _ rfl).1
      have x1 := (HX.out.2 1 _ rfl).1
      have x2 := (HX.out.2 2 _ rfl).1
      have HX2 := Lib.hid (HX.out.q ((Q.refl W).alloc (Obj.cells #[Value.slice A ks.length ca, Value.slice S sl.length d] 26)))
      go_upto_region 3 with fail
      generalize hV : W.alloc (Obj.cells #[Value.slice A ks.length ca, Value.slice S sl.length d] 26) = V at *
      clear hV x0 x1 x2
      have x3 := (HX2.out.2 3 _ rfl).1
      have x4 := (HX2.out.2 4 _ rfl).1
      have x5 := (HX2.out.2 5 _ rfl).1
      have x6 := (HX2.out.2 6 _ rfl).1
      have x7 := (HX2.out.2 7 _ rfl).1
      have x8 := (HX2.out.2 8 _ rfl).1
      have HX3 := Lib.hid (HX2.out.q ((Q.refl V).alloc (Obj.cells #[.slice F R.length cr, .slice Av c.V.length k1, .slice D c.N.length k2, .slice E c.M.length k3, .slice Pa P.length kp, .slice Ta T.length kt] 31)))
      go_upto_region 4 with fail
      generalize hU : V.alloc (Obj.cells #[.slice F R.length cr, .slice Av c.V.length k1, .slice D c.N.length k2, .slice E c.M.length k3, .slice Pa P.length kp, .slice Ta T.length kt] 31) = U at *
      clear hU x3 x4 x5 x6 x7 x8
      have x9 := (HX3.out.2 9 _ rfl).1
      have x10 := (HX3.out.2 10 _ rfl).1
      go_upto_region 6 with fail
      clear x9 x10
      have ALL : Hid (∀ U', Q U U' → U'.cell? ⟨W.heap.size, 0, none⟩ = some (.slice A ks.length ca) ∧ U'.cell? ⟨W.heap.size, 1, none⟩ = some (.slice S sl.length d) ∧ U'.cell? ⟨V.heap.size, 0, none⟩ = some (.slice F R.length cr) ∧ U'.cell? ⟨V.heap.size, 1, none⟩ = some (.slice Av c.V.length k1) ∧ U'.cell? ⟨V.heap.size, 2, none⟩ = some (.slice D c.N.length k2) ∧ U'.cell? ⟨V.heap.size, 3, none⟩ = some (.slice E c.M.length k3) ∧ U'.cell? ⟨V.heap.size, 4, none⟩ = some (.slice Pa P.length kp) ∧ U'.cell? ⟨V.heap.size, 5, none⟩ = some (.slice Ta T.length kt)) := fun U' q => by
        have h1 := HT.out.q q
        have h2 := HG6.out.q q
        exact ⟨h1.c0, h1.c1, h2.c0, h2.c1, h2.c2, h2.c3, h2.c4, h2.c5⟩
      obtain ⟨s0, s1, s2, s3, s4, s5, s6, s7⟩ := ALL.out U (Q.refl _)
      have HQ1 : Hid (Q U U) := Lib.hid (Q.refl _)
      go_wp2_with (first
        | (go_at_call 8; (with_reducible refine (shown12_any U).mono ?_); rintro e w2 ⟨rfl, q1⟩; have HQ2 := Lib.hid (HQ1.out.trans q1); clear s0 s1 s2 s3 s4 s5 s6 s7 q1; obtain ⟨s0, s1, s2, s3, s4, s5, s6, s7⟩ := ALL.out w2 HQ2.out)
        | (go_at_call 9; (with_reducible refine (CF.out w2 (HQ0.out.trans HQ2.out)).mono ?_); rintro e w3 ⟨rfl, q2⟩; have HQ3 := Lib.hid (HQ2.out.trans q2); clear s0 s1 s2 s3 s4 s5 s6 s7 q2; obtain ⟨s0, s1, s2, s3, s4, s5, s6, s7⟩ := ALL.out w3 HQ3.out)
        | fail)
      go_ret
      exact ⟨rfl, HQ0.out.trans HQ3.out⟩
    · have d0 : decide (x < 0) = false := decide_eq_false h0
      obtain ⟨a, ha⟩ := Int.eq_ofNat_of_zero_le (by omega : 0 ≤ x)
      have ha : x = (a : Int) := ha
      subst ha
      by_cases h1 : c.V.length ≤ a
      · have d1 : decide ((c.V.length : Int) ≤ (a : Int)) = true := decide_eq_true (by omega)
        have d2 : decide (c.V.length ≤ a) = true := decide_eq_true h1
        clear g6 hO hsl hfew hC hp ht hA h0 h1 HKy HSl HGa HRow
        go_enter Tryz.func4, Tryz.ntmps4
        go_upto_region 1 with fail
        generalize hW : w.alloc (Obj.cells #[.slice L0 l.length cl, .slice A ks.length ca, .slice S sl.length d, .slice F R.length cr, .slice Av c.V.length k1, .slice D c.N.length k2, .slice E c.M.length k3, .slice Pa P.length kp, .slice Ta T.length kt, .int .i64 (a : Int), .int .i64 y] 42) = W at *
        clear hW
        have x0 := (HX.out.2 0 _ rfl).1
        have x1 := (HX.out.2 1 _ rfl).1
        have x2 := (HX.out.2 2 _ rfl).1
        have HX2 := Lib.hid (HX.out.q ((Q.refl W).alloc (Obj.cells #[Value.slice A ks.length ca, Value.slice S sl.length d] 26)))
        go_upto_region 3 with fail
        generalize hV : W.alloc (Obj.cells #[Value.slice A ks.length ca, Value.slice S sl.length d] 26) = V at *
        clear hV x0 x1 x2
        have x3 := (HX2.out.2 3 _ rfl).1
        have x4 := (HX2.out.2 4 _ rfl).1
        have x5 := (HX2.out.2 5 _ rfl).1
        have x6 := (HX2.out.2 6 _ rfl).1
        have x7 := (HX2.out.2 7 _ rfl).1
        have x8 := (HX2.out.2 8 _ rfl).1
        have HX3 := Lib.hid (HX2.out.q ((Q.refl V).alloc (Obj.cells #[.slice F R.length cr, .slice Av c.V.length k1, .slice D c.N.length k2, .slice E c.M.length k3, .slice Pa P.length kp, .slice Ta T.length kt] 31)))
        go_upto_region 4 with fail
        generalize hU : V.alloc (Obj.cells #[.slice F R.length cr, .slice Av c.V.length k1, .slice D c.N.length k2, .slice E c.M.length k3, .slice Pa P.length kp, .slice Ta T.length kt] 31) = U at *
        clear hU x3 x4 x5 x6 x7 x8
        have x9 := (HX3.out.2 9 _ rfl).1
        have x10 := (HX3.out.2 10 _ rfl).1
        go_upto_region 6 with fail
        clear x9 x10
        have ALL : Hid (∀ U', Q U U' → U'.cell? ⟨W.heap.size, 0, none⟩ = some (.slice A ks.length ca) ∧ U'.cell? ⟨W.heap.size, 1, none⟩ = some (.slice S sl.length d) ∧ U'.cell? ⟨V.heap.size, 0, none⟩ = some (.slice F R.length cr) ∧ U'.cell? ⟨V.heap.size, 1, none⟩ = some (.slice Av c.V.length k1) ∧ U'.cell? ⟨V.heap.size, 2, none⟩ = some (.slice D c.N.length k2) ∧ U'.cell? ⟨V.heap.size, 3, none⟩ = some (.slice E c.M.length k3) ∧ U'.cell? ⟨V.heap.size, 4, none⟩ = some (.slice Pa P.length kp) ∧ U'.cell? ⟨V.heap.size, 5, none⟩ = some (.slice Ta T.length kt)) := fun U' q => by
          have h1 := HT.out.q q
          have h2 := HG6.out.q q
          exact ⟨h1.c0, h1.c1, h2.c0, h2.c1, h2.c2, h2.c3, h2.c4, h2.c5⟩
        obtain ⟨s0, s1, s2, s3, s4, s5, s6, s7⟩ := ALL.out U (Q.refl _)
        have HQ1 : Hid (Q U U) := Lib.hid (Q.refl _)
        go_wp2_with (first
          | (go_at_call 8; (with_reducible refine (shown12_any U).mono ?_); rintro e w2 ⟨rfl, q1⟩; have HQ2 := Lib.hid (HQ1.out.trans q1); clear s0 s1 s2 s3 s4 s5 s6 s7 q1; obtain ⟨s0, s1, s2, s3, s4, s5, s6, s7⟩ := ALL.out w2 HQ2.out)
          | (go_at_call 9; (with_reducible refine (CF.out w2 (HQ0.out.trans HQ2.out)).mono ?_); rintro e w3 ⟨rfl, q2⟩; have HQ3 := Lib.hid (HQ2.out.trans q2); clear s0 s1 s2 s3 s4 s5 s6 s7 q2; obtain ⟨s0, s1, s2, s3, s4, s5, s6, s7⟩ := ALL.out w3 HQ3.out)
          | fail)
        go_ret
        exact ⟨rfl, HQ0.out.trans HQ3.out⟩
      · have d1 : decide ((c.V.length : Int) ≤ (a : Int)) = false := decide_eq_false (by omega)
        have d2 : decide (c.V.length ≤ a) = false := decide_eq_false h1
        by_cases h2 : y < 0
        · have d3 : decide (y < 0) = true := decide_eq_true h2
          clear g6 hO hsl hfew hC hp ht hA h0 h1 h2 HKy HSl HGa HRow
          go_enter Tryz.func4, Tryz.ntmps4
          go_upto_region 1 with fail
          generalize hW : w.alloc (Obj.cells #[.slice L0 l.length cl, .slice A ks.length ca, .slice S sl.length d, .slice F R.length cr, .slice Av c.V.length k1, .slice D c.N.length k2, .slice E c.M.length k3, .slice Pa P.length kp, .slice Ta T.length kt, .int .i64 (a : Int), .int .i64 y] 42) = W at *
          clear hW
          have x0 := (HX.out.2 0 _ rfl).1
          have x1 := (HX.out.2 1 _ rfl).1
          have x2 := (HX.out.2 2 _ rfl).1
          have HX2 := Lib.hid (HX.out.q ((Q.refl W).alloc (Obj.cells #[Value.slice A ks.length ca, Value.slice S sl.length d] 26)))
          go_upto_region 3 with fail
          generalize hV : W.alloc (Obj.cells #[Value.slice A ks.length ca, Value.slice S sl.length d] 26) = V at *
          clear hV x0 x1 x2
          have x3 := (HX2.out.2 3 _ rfl).1
          have x4 := (HX2.out.2 4 _ rfl).1
          have x5 := (HX2.out.2 5 _ rfl).1
          have x6 := (HX2.out.2 6 _ rfl).1
          have x7 := (HX2.out.2 7 _ rfl).1
          have x8 := (HX2.out.2 8 _ rfl).1
          have HX3 := Lib.hid (HX2.out.q ((Q.refl V).alloc (Obj.cells #[.slice F R.length cr, .slice Av c.V.length k1, .slice D c.N.length k2, .slice E c.M.length k3, .slice Pa P.length kp, .slice Ta T.length kt] 31)))
          go_upto_region 4 with fail
          generalize hU : V.alloc (Obj.cells #[.slice F R.length cr, .slice Av c.V.length k1, .slice D c.N.length k2, .slice E c.M.length k3, .slice Pa P.length kp, .slice Ta T.length kt] 31) = U at *
          clear hU x3 x4 x5 x6 x7 x8
          have x9 := (HX3.out.2 9 _ rfl).1
          have x10 := (HX3.out.2 10 _ rfl).1
          go_upto_region 6 with fail
          clear x9 x10
          have ALL : Hid (∀ U', Q U U' → U'.cell? ⟨W.heap.size, 0, none⟩ = some (.slice A ks.length ca) ∧ U'.cell? ⟨W.heap.size, 1, none⟩ = some (.slice S sl.length d) ∧ U'.cell? ⟨V.heap.size, 0, none⟩ = some (.slice F R.length cr) ∧ U'.cell? ⟨V.heap.size, 1, none⟩ = some (.slice Av c.V.length k1) ∧ U'.cell? ⟨V.heap.size, 2, none⟩ = some (.slice D c.N.length k2) ∧ U'.cell? ⟨V.heap.size, 3, none⟩ = some (.slice E c.M.length k3) ∧ U'.cell? ⟨V.heap.size, 4, none⟩ = some (.slice Pa P.length kp) ∧ U'.cell? ⟨V.heap.size, 5, none⟩ = some (.slice Ta T.length kt)) := fun U' q => by
            have h1 := HT.out.q q
            have h2 := HG6.out.q q
            exact ⟨h1.c0, h1.c1, h2.c0, h2.c1, h2.c2, h2.c3, h2.c4, h2.c5⟩
          obtain ⟨s0, s1, s2, s3, s4, s5, s6, s7⟩ := ALL.out U (Q.refl _)
          have HQ1 : Hid (Q U U) := Lib.hid (Q.refl _)
          go_wp2_with (first
            | (go_at_call 8; (with_reducible refine (shown12_any U).mono ?_); rintro e w2 ⟨rfl, q1⟩; have HQ2 := Lib.hid (HQ1.out.trans q1); clear s0 s1 s2 s3 s4 s5 s6 s7 q1; obtain ⟨s0, s1, s2, s3, s4, s5, s6, s7⟩ := ALL.out w2 HQ2.out)
            | (go_at_call 9; (with_reducible refine (CF.out w2 (HQ0.out.trans HQ2.out)).mono ?_); rintro e w3 ⟨rfl, q2⟩; have HQ3 := Lib.hid (HQ2.out.trans q2); clear s0 s1 s2 s3 s4 s5 s6 s7 q2; obtain ⟨s0, s1, s2, s3, s4, s5, s6, s7⟩ := ALL.out w3 HQ3.out)
            | fail)
          go_ret
          exact ⟨rfl, HQ0.out.trans HQ3.out⟩
        · have d3 : decide (y < 0) = false := decide_eq_false h2
          obtain ⟨b, hb⟩ := Int.eq_ofNat_of_zero_le (by omega : 0 ≤ y)
          have hb : y = (b : Int) := hb
          subst hb
          by_cases h3 : c.V.length ≤ b
          · have d4 : decide ((c.V.length : Int) ≤ (b : Int)) = true := decide_eq_true (by omega)
            have d5 : decide (c.V.length ≤ b) = true := decide_eq_true h3
            clear g6 hO hsl hfew hC hp ht hA h0 h1 h2 h3 HKy HSl HGa HRow
            go_enter Tryz.func4, Tryz.ntmps4
            go_upto_region 1 with fail
            generalize hW : w.alloc (Obj.cells #[.slice L0 l.length cl, .slice A ks.length ca, .slice S sl.length d, .slice F R.length cr, .slice Av c.V.length k1, .slice D c.N.length k2, .slice E c.M.length k3, .slice Pa P.length kp, .slice Ta T.length kt, .int .i64 (a : Int), .int .i64 (b : Int)] 42) = W at *
            clear hW
            have x0 := (HX.out.2 0 _ rfl).1
            have x1 := (HX.out.2 1 _ rfl).1
            have x2 := (HX.out.2 2 _ rfl).1
            have HX2 := Lib.hid (HX.out.q ((Q.refl W).alloc (Obj.cells #[Value.slice A ks.length ca, Value.slice S sl.length d] 26)))
            go_upto_region 3 with fail
            generalize hV : W.alloc (Obj.cells #[Value.slice A ks.length ca, Value.slice S sl.length d] 26) = V at *
            clear hV x0 x1 x2
            have x3 := (HX2.out.2 3 _ rfl).1
            have x4 := (HX2.out.2 4 _ rfl).1
            have x5 := (HX2.out.2 5 _ rfl).1
            have x6 := (HX2.out.2 6 _ rfl).1
            have x7 := (HX2.out.2 7 _ rfl).1
            have x8 := (HX2.out.2 8 _ rfl).1
            have HX3 := Lib.hid (HX2.out.q ((Q.refl V).alloc (Obj.cells #[.slice F R.length cr, .slice Av c.V.length k1, .slice D c.N.length k2, .slice E c.M.length k3, .slice Pa P.length kp, .slice Ta T.length kt] 31)))
            go_upto_region 4 with fail
            generalize hU : V.alloc (Obj.cells #[.slice F R.length cr, .slice Av c.V.length k1, .slice D c.N.length k2, .slice E c.M.length k3, .slice Pa P.length kp, .slice Ta T.length kt] 31) = U at *
            clear hU x3 x4 x5 x6 x7 x8
            have x9 := (HX3.out.2 9 _ rfl).1
            have x10 := (HX3.out.2 10 _ rfl).1
            go_upto_region 6 with fail
            clear x9 x10
            have ALL : Hid (∀ U', Q U U' → U'.cell? ⟨W.heap.size, 0, none⟩ = some (.slice A ks.length ca) ∧ U'.cell? ⟨W.heap.size, 1, none⟩ = some (.slice S sl.length d) ∧ U'.cell? ⟨V.heap.size, 0, none⟩ = some (.slice F R.length cr) ∧ U'.cell? ⟨V.heap.size, 1, none⟩ = some (.slice Av c.V.length k1) ∧ U'.cell? ⟨V.heap.size, 2, none⟩ = some (.slice D c.N.length k2) ∧ U'.cell? ⟨V.heap.size, 3, none⟩ = some (.slice E c.M.length k3) ∧ U'.cell? ⟨V.heap.size, 4, none⟩ = some (.slice Pa P.length kp) ∧ U'.cell? ⟨V.heap.size, 5, none⟩ = some (.slice Ta T.length kt)) := fun U' q => by
              have h1 := HT.out.q q
              have h2 := HG6.out.q q
              exact ⟨h1.c0, h1.c1, h2.c0, h2.c1, h2.c2, h2.c3, h2.c4, h2.c5⟩
            obtain ⟨s0, s1, s2, s3, s4, s5, s6, s7⟩ := ALL.out U (Q.refl _)
            have HQ1 : Hid (Q U U) := Lib.hid (Q.refl _)
            go_wp2_with (first
              | (go_at_call 8; (with_reducible refine (shown12_any U).mono ?_); rintro e w2 ⟨rfl, q1⟩; have HQ2 := Lib.hid (HQ1.out.trans q1); clear s0 s1 s2 s3 s4 s5 s6 s7 q1; obtain ⟨s0, s1, s2, s3, s4, s5, s6, s7⟩ := ALL.out w2 HQ2.out)
              | (go_at_call 9; (with_reducible refine (CF.out w2 (HQ0.out.trans HQ2.out)).mono ?_); rintro e w3 ⟨rfl, q2⟩; have HQ3 := Lib.hid (HQ2.out.trans q2); clear s0 s1 s2 s3 s4 s5 s6 s7 q2; obtain ⟨s0, s1, s2, s3, s4, s5, s6, s7⟩ := ALL.out w3 HQ3.out)
              | fail)
            go_ret
            exact ⟨rfl, HQ0.out.trans HQ3.out⟩
          · have d4 : decide ((c.V.length : Int) ≤ (b : Int)) = false := decide_eq_false (by omega)
            have d5 : decide (c.V.length ≤ b) = false := decide_eq_false h3
            obtain ⟨c2, P2, T2, l2, hEq, hNe, hc1, f1, f2, f3, f4, f5, f6, f7⟩ := one_join (ca := ca) (d := d) (cr := cr) (kp := kp) (kt := kt) HKy.out (by rw [← hsl]; exact HSl.out) hO HGa.out hfew hC hp ht hA (by omega : a < c.V.length) (by omega : b < c.V.length)
            rw [← hsl] at hc1
            have CO := Lib.hid hc1
            have HF := Lib.hid hfew
            have HF2 := Lib.hid (And.intro f4 (And.intro f5 (And.intro f6 f7)))
            have HV2 := Lib.hid (And.intro f1 (And.intro f2 f3))
            have HEq := Lib.hid hEq
            have HNe := Lib.hid hNe
            have HCl := Lib.hid hC
            have HRt := Lib.hid g6
            have HO := Lib.hid hO
            have HpT := Lib.hid (And.intro hp ht)
            have HaV : Hid (a < c.V.length) := by unfold Hid; omega
            have HbV : Hid (b < c.V.length) := by unfold Hid; omega
            clear hsl hO hfew hC hp ht hA h0 h1 h2 h3 HSl HRow hc1 f1 f2 f3 f4 f5 f6 f7 hEq hNe g6
            go_enter Tryz.func4, Tryz.ntmps4
            go_upto_region 1 with fail
            generalize hW : w.alloc (Obj.cells #[.slice L0 l.length cl, .slice A ks.length ca, .slice S sl.length d, .slice F R.length cr, .slice Av c.V.length k1, .slice D c.N.length k2, .slice E c.M.length k3, .slice Pa P.length kp, .slice Ta T.length kt, .int .i64 (a : Int), .int .i64 (b : Int)] 42) = W at *
            clear hW
            have x0 := (HX.out.2 0 _ rfl).1
            have x1 := (HX.out.2 1 _ rfl).1
            have x2 := (HX.out.2 2 _ rfl).1
            have HX2 := Lib.hid (HX.out.q ((Q.refl W).alloc (Obj.cells #[Value.slice A ks.length ca, Value.slice S sl.length d] 26)))
            go_upto_region 3 with fail
            generalize hV : W.alloc (Obj.cells #[Value.slice A ks.length ca, Value.slice S sl.length d] 26) = V at *
            clear hV x0 x1 x2
            have x3 := (HX2.out.2 3 _ rfl).1
            have x4 := (HX2.out.2 4 _ rfl).1
            have x5 := (HX2.out.2 5 _ rfl).1
            have x6 := (HX2.out.2 6 _ rfl).1
            have x7 := (HX2.out.2 7 _ rfl).1
            have x8 := (HX2.out.2 8 _ rfl).1
            have HX3 := Lib.hid (HX2.out.q ((Q.refl V).alloc (Obj.cells #[.slice F R.length cr, .slice Av c.V.length k1, .slice D c.N.length k2, .slice E c.M.length k3, .slice Pa P.length kp, .slice Ta T.length kt] 31)))
            go_upto_region 4 with fail
            generalize hU : V.alloc (Obj.cells #[.slice F R.length cr, .slice Av c.V.length k1, .slice D c.N.length k2, .slice E c.M.length k3, .slice Pa P.length kp, .slice Ta T.length kt] 31) = U at *
            clear hU x3 x4 x5 x6 x7 x8
            have x9 := (HX3.out.2 9 _ rfl).1
            have x10 := (HX3.out.2 10 _ rfl).1
            go_upto_region 6 with fail
            clear x9 x10
            have ALL : Hid (∀ U', Q U U' → U'.cell? ⟨W.heap.size, 0, none⟩ = some (.slice A ks.length ca) ∧ U'.cell? ⟨W.heap.size, 1, none⟩ = some (.slice S sl.length d) ∧ U'.cell? ⟨V.heap.size, 0, none⟩ = some (.slice F R.length cr) ∧ U'.cell? ⟨V.heap.size, 1, none⟩ = some (.slice Av c.V.length k1) ∧ U'.cell? ⟨V.heap.size, 2, none⟩ = some (.slice D c.N.length k2) ∧ U'.cell? ⟨V.heap.size, 3, none⟩ = some (.slice E c.M.length k3) ∧ U'.cell? ⟨V.heap.size, 4, none⟩ = some (.slice Pa P.length kp) ∧ U'.cell? ⟨V.heap.size, 5, none⟩ = some (.slice Ta T.length kt)) := fun U' q => by
              have h1 := HT.out.q q
              have h2 := HG6.out.q q
              exact ⟨h1.c0, h1.c1, h2.c0, h2.c1, h2.c2, h2.c3, h2.c4, h2.c5⟩
            obtain ⟨s0, s1, s2, s3, s4, s5, s6, s7⟩ := ALL.out U (Q.refl _)
            have HQ1 : Hid (Q U U) := Lib.hid (Q.refl _)
            go_upto_region 9 with (first
              | (go_at_call 8; (with_reducible refine (shown12_any U).mono ?_); rintro e w2 ⟨rfl, q1⟩; have HQ2 := Lib.hid (HQ1.out.trans q1); clear s0 s1 s2 s3 s4 s5 s6 s7 q1; obtain ⟨s0, s1, s2, s3, s4, s5, s6, s7⟩ := ALL.out w2 HQ2.out)
              | (go_at_call 9; (with_reducible refine (CF.out w2 (HQ0.out.trans HQ2.out)).mono ?_); rintro e w3 ⟨rfl, q2⟩; have HQ3 := Lib.hid (HQ2.out.trans q2); clear s0 s1 s2 s3 s4 s5 s6 s7 q2; obtain ⟨s0, s1, s2, s3, s4, s5, s6, s7⟩ := ALL.out w3 HQ3.out)
              | fail)
            clear d0 d1 d2 d3 d4 d5
            go_upto_region 10 with (go_at_call 10; refine (CO.out w3 (HQ0.out.trans HQ3.out)).mono ?_; rintro e w4 ⟨F4, A4, D4, E4, P4, T4, cr4, l41, l42, l43, lp4, lt4, X4, y4, rfl, hg4, hx4, q3⟩; have HG4 := Lib.hid hg4; have HX4 := Lib.hid hx4; have HQ4 := Lib.hid (HQ3.out.trans q3); clear hg4 hx4 q3 s0 s1 s2 s3 s4 s5 s6 s7)
            have q4 := (Q.refl w4).alloc (Obj.cells #[.slice F4 R.length cr4, .slice A4 c.V.length l41, .slice D4 c2.N.length l42, .slice E4 c2.M.length l43, .slice P4 P.length lp4, .slice T4 T.length lt4] 31)
            have HB4 := Lib.hid (Box6.new w4 (.slice F4 R.length cr4) (.slice A4 c.V.length l41) (.slice D4 c2.N.length l42) (.slice E4 c2.M.length l43) (.slice P4 P.length lp4) (.slice T4 T.length lt4) 31)
            have HG4' := Lib.hid (HG4.out.q q4)
            have HX4' := Lib.hid (HX4.out.q q4)
            have HQ4' := Lib.hid (HQ4.out.trans q4)
            clear q4 HG4 HX4 HQ4
            obtain ⟨Bm, hBm⟩ : ∃ Bm, Bm = w4.heap.size := ⟨_, rfl⟩
            rw [← hBm] at HB4 ⊢
            clear hBm
            generalize w4.alloc (Obj.cells #[.slice F4 R.length cr4, .slice A4 c.V.length l41, .slice D4 c2.N.length l42, .slice E4 c2.M.length l43, .slice P4 P.length lp4, .slice T4 T.length lt4] 31) = u4 at *
            have ALL4 : Hid (∀ U', Q u4 U' → U'.cell? ⟨W.heap.size, 0, none⟩ = some (.slice A ks.length ca) ∧ U'.cell? ⟨W.heap.size, 1, none⟩ = some (.slice S sl.length d) ∧ U'.cell? ⟨V.heap.size, 0, none⟩ = some (.slice F R.length cr) ∧ U'.cell? ⟨V.heap.size, 1, none⟩ = some (.slice Av c.V.length k1) ∧ U'.cell? ⟨V.heap.size, 2, none⟩ = some (.slice D c.N.length k2) ∧ U'.cell? ⟨V.heap.size, 3, none⟩ = some (.slice E c.M.length k3) ∧ U'.cell? ⟨V.heap.size, 4, none⟩ = some (.slice Pa P.length kp) ∧ U'.cell? ⟨V.heap.size, 5, none⟩ = some (.slice Ta T.length kt) ∧ U'.cell? ⟨Bm, 0, none⟩ = some (.slice F4 R.length cr4) ∧ U'.cell? ⟨Bm, 1, none⟩ = some (.slice A4 c.V.length l41) ∧ U'.cell? ⟨Bm, 2, none⟩ = some (.slice D4 c2.N.length l42) ∧ U'.cell? ⟨Bm, 3, none⟩ = some (.slice E4 c2.M.length l43) ∧ U'.cell? ⟨Bm, 4, none⟩ = some (.slice P4 P.length lp4) ∧ U'.cell? ⟨Bm, 5, none⟩ = some (.slice T4 T.length lt4)) := fun U' q => by
              obtain ⟨s0, s1, s2, s3, s4, s5, s6, s7⟩ := ALL.out U' (HQ4'.out.trans q)
              obtain ⟨m0, m1, m2, m3, m4, m5, -⟩ := HB4.out.q q
              exact ⟨s0, s1, s2, s3, s4, s5, s6, s7, m0, m1, m2, m3, m4, m5⟩
            obtain ⟨s0, s1, s2, s3, s4, s5, s6, s7, m0, m1, m2, m3, m4, m5⟩ := ALL4.out u4 (Q.refl _)
            have HQw4 := Lib.hid (HQ0.out.trans HQ4'.out)
            have CFa := Lib.hid (fun (U : World) (q : Q u4 U) => refFind_any R c.V a Av _ k1 (.slice D c.N.length k2) (.slice E c.M.length k3) U rfl (HGa.out.u.q (HQw4.out.trans q)).v HCl.out HaV.out (by have := HF.out.2.1.1; omega))
            have CFb := Lib.hid (fun (U : World) (q : Q u4 U) => refFind_any R c.V b Av _ k1 (.slice D c.N.length k2) (.slice E c.M.length k3) U rfl (HGa.out.u.q (HQw4.out.trans q)).v HCl.out HbV.out (by have := HF.out.2.1.1; omega))
            go_upto_region 12 with (first
              | (go_at_call 14; (with_reducible refine (CFa.out u4 (Q.refl _)).mono ?_); rintro e w5 ⟨rfl, q5⟩; have HQ5 := Lib.hid q5; clear q5; clear s0 s1 s2 s3 s4 s5 s6 s7 m0 m1 m2 m3 m4 m5; obtain ⟨s0, s1, s2, s3, s4, s5, s6, s7, m0, m1, m2, m3, m4, m5⟩ := ALL4.out w5 HQ5.out)
              | (go_at_call 14; (with_reducible refine (CFb.out w5 HQ5.out).mono ?_); rintro e w6 ⟨rfl, q6⟩; have HQ6 := Lib.hid (HQ5.out.trans q6); clear q6; clear s0 s1 s2 s3 s4 s5 s6 s7 m0 m1 m2 m3 m4 m5; obtain ⟨s0, s1, s2, s3, s4, s5, s6, s7, m0, m1, m2, m3, m4, m5⟩ := ALL4.out w6 HQ6.out)
              | fail)
            clear CFa CFb
            by_cases hpq : fst c.V a = fst c.V b
            · obtain ⟨rfl, rfl, rfl, rfl⟩ := HEq.out hpq
              have e1 : ((fst c2.V a : Int) == (fst c2.V b : Int)) = true := by rw [hpq]; simp
              have CS := Lib.hid (refSame12_any R c2 P2 T2 F Av D E Pa Ta F4 A4 D4 E4 P4 T4 _ cr _ k1 _ k2 _ k3 _ kp _ kt _ cr4 _ l41 _ l42 _ l43 _ lp4 _ lt4 w6 rfl rfl rfl rfl rfl rfl rfl rfl rfl rfl rfl rfl (HGa.out.r.q (HQw4.out.trans HQ6.out)) (HGa.out.u.q (HQw4.out.trans HQ6.out)) ((HGa.out.p.q (Nat.le_refl _) (HQw4.out.trans HQ6.out)).more (HQw4.out.trans HQ6.out).size) ((HGa.out.t.q (Nat.le_refl _) (HQw4.out.trans HQ6.out)).more (HQw4.out.trans HQ6.out).size) (HG4'.out.q HQ6.out).r.rds (HG4'.out.q HQ6.out).rd (HG4'.out.q HQ6.out).p.keys (HG4'.out.q HQ6.out).t.keys (by have := HF.out.1; unfold maxLen; omega) ⟨by have := HF.out.2.1.1; omega, by have := HF.out.2.1.2.1; omega, by have := HF.out.2.1.2.2; omega⟩ (by have := HF.out.2.2.1; unfold maxLen; omega) (by have := HF.out.2.2.2.1; unfold maxLen; omega) (fun k hk => by have := HF.out.2.2.2.2.1 k hk; unfold maxLen; omega) (fun k hk => by have := HF.out.2.2.2.2.2 k hk; unfold maxLen; omega))
              clear hpq
              go_wp2_with (go_at_call 12; refine CS.out.mono ?_; rintro e w7 ⟨rfl, q7⟩; have HQ7 := Lib.hid q7; clear q7)
              go_ret
              exact ⟨rfl, (HQw4.out.trans HQ6.out).trans HQ7.out⟩
            · obtain ⟨hc2, hP2, hT2, hl2⟩ := HNe.out hpq
              have hgl := hi_in (R := R) HCl.out HaV.out HbV.out
              have hJ := joined (R := R) HCl.out HaV.out HbV.out
              have hab := hJ.a_b HaV.out HbV.out
              have hRt := right_one HRt.out HaV.out HbV.out
              rw [← hc2, ← hP2, ← hT2] at hRt
              have hcl2 := hJ.cl
              rw [← hc2] at hcl2 hab hl2
              have hor := lo_or R c.V a b
              obtain ⟨f, hf⟩ : ∃ f, f = lo R c.V a b := ⟨_, rfl⟩
              obtain ⟨g, hg⟩ : ∃ g, g = hi R c.V a b := ⟨_, rfl⟩
              rw [← hf] at hab hl2 hor
              rw [← hg] at hP2 hT2 hl2 hgl hor
              have HP2 := Lib.hid hP2
              have HT2 := Lib.hid hT2
              have HL2 := Lib.hid hl2
              have Hgl := Lib.hid hgl
              have CR := Lib.hid (fun (U : World) (q : Q u4 U) => refRightG_any R c2 A S F4 A4 D4 E4 P4 T4 _ ca sl.length d _ cr4 c.V.length l41 _ l42 _ l43 P.length lp4 T.length lt4 ks P2 T2 U rfl ((HKy.out.q (Nat.le_refl _) (HQw4.out.trans q)).more (HQw4.out.trans q).size) rfl (HG4'.out.q q).r.rds HV2.out.1.symm rfl rfl (HG4'.out.q q).rd ⟨by have := HF2.out.1.1; omega, by have := HF2.out.1.2.1; omega, by have := HF2.out.1.2.2; omega⟩ HV2.out.2.1.symm (HG4'.out.q q).p.keys HV2.out.2.2.symm (HG4'.out.q q).t.keys (fun k hk => Nat.le_trans (HF2.out.2.1 k hk) (by omega)) (fun k hk => Nat.le_trans (HF2.out.2.2.1 k hk) (by omega)))
              rw [hRt] at CR
              have CFa2 := Lib.hid (fun (U : World) (q : Q u4 U) => refFind_any R c2.V a A4 c.V.length l41 (.slice D4 c2.N.length l42) (.slice E4 c2.M.length l43) U HV2.out.1.symm (HG4'.out.q q).v.rds hcl2 (by rw [HV2.out.1]; exact HaV.out) (by have := HF2.out.1.1; omega))
              have CFb2 := Lib.hid (fun (U : World) (q : Q u4 U) => refFind_any R c2.V b A4 c.V.length l41 (.slice D4 c2.N.length l42) (.slice E4 c2.M.length l43) U HV2.out.1.symm (HG4'.out.q q).v.rds hcl2 (by rw [HV2.out.1]; exact HbV.out) (by have := HF2.out.1.1; omega))
              rw [hab.1] at CFa2
              rw [hab.2] at CFb2
              have CAt := Lib.hid (fun (U : World) (q : Q u4 U) => refAtV_any A _ ca (.slice S sl.length d) ks (f : Int) U rfl ((HKy.out.q (Nat.le_refl _) (HQw4.out.trans q)).more (HQw4.out.trans q).size) (by have := HO.out.len; unfold maxLen; omega) (fun k hk => by have := HO.out.key k hk; unfold maxLen; omega))
              have e1 : ((fst c.V a : Int) == (fst c.V b : Int)) = false := by rw [beq_eq_false_iff_ne]; omega
              have hp1 := (HCl.out.fst_in a HaV.out).1
              have hq1 := (HCl.out.fst_in b HbV.out).1
              have hV1 := HF.out.2.1.1
              obtain ⟨p, hp⟩ : ∃ p, p = fst c.V a := ⟨_, rfl⟩
              obtain ⟨q, hq⟩ : ∃ q, q = fst c.V b := ⟨_, rfl⟩
              rw [← hp] at e1 hor hp1 hpq ⊢
              rw [← hq] at e1 hor hq1 hpq ⊢
              have hpb : (p : Int) < 1000 := by omega
              have hqb : (q : Int) < 1000 := by omega
              have hp0 : (0 : Int) ≤ (p : Int) := Int.natCast_nonneg _
              have hq0 : (0 : Int) ≤ (q : Int) := Int.natCast_nonneg _
              have HNpq := Lib.hid hpq
              -- rows
              have hPl : g < P.length := by have := HF.out.2.2.1; rw [HpT.out.1]; exact hgl
              have hTl : g < T.length := by rw [HpT.out.2]; exact hgl
              obtain ⟨pad, hpa, hpb2, hpc⟩ := HGa.out.p (by omega)
              obtain ⟨tad, hta, htb2, htc⟩ := HGa.out.t (by omega)
              obtain ⟨pad4, hpa4, -, hpb4, hpc4⟩ := HG4'.out.p (by rw [HV2.out.2.1]; omega)
              obtain ⟨tad4, hta4, -, htb4, htc4⟩ := HG4'.out.t (by rw [HV2.out.2.2]; omega)
              have HRP : Hid (∀ v, v < P.length → ∃ a' c', ∀ U, Q u4 U → U.cell? (pad.add v) = some (.slice a' (rowG P v).length c') ∧ Ints U U.heap.size a' (rowG P v)) := fun v hv => by
                obtain ⟨a', c', -, h1, h2⟩ := hpc v P[v] (List.getElem?_eq_getElem hv)
                refine ⟨a', c', fun U q => ?_⟩
                unfold rowG
                rw [rows_at hv]
                exact ⟨((HQw4.out.trans q).cell (by rw [Tr.add_block]; exact hpb2)).trans h1, (h2.q (Nat.le_refl _) (HQw4.out.trans q)).more (HQw4.out.trans q).size⟩
              have HRT : Hid (∀ v, v < T.length → ∃ a' c', ∀ U, Q u4 U → U.cell? (tad.add v) = some (.slice a' (rowG T v).length c') ∧ Ints U U.heap.size a' (rowG T v)) := fun v hv => by
                obtain ⟨a', c', -, h1, h2⟩ := htc v T[v] (List.getElem?_eq_getElem hv)
                refine ⟨a', c', fun U q => ?_⟩
                unfold rowG
                rw [rows_at hv]
                exact ⟨((HQw4.out.trans q).cell (by rw [Tr.add_block]; exact htb2)).trans h1, (h2.q (Nat.le_refl _) (HQw4.out.trans q)).more (HQw4.out.trans q).size⟩
              have HRP4 : Hid (∀ v, v < P.length → ∃ a' c', ∀ U, Q u4 U → U.cell? (pad4.add v) = some (.slice a' (rowG P2 v).length c') ∧ Ints U U.heap.size a' (rowG P2 v)) := fun v hv => by
                have hv2 : v < P2.length := by rw [HV2.out.2.1]; exact hv
                obtain ⟨a', c', -, h1, h2⟩ := hpc4 v P2[v] (List.getElem?_eq_getElem hv2)
                refine ⟨a', c', fun U q => ?_⟩
                unfold rowG
                rw [rows_at hv2]
                exact ⟨(q.cell (by rw [Tr.add_block]; exact hpb4)).trans h1, (h2.q q).ints⟩
              have HRT4 : Hid (∀ v, v < T.length → ∃ a' c', ∀ U, Q u4 U → U.cell? (tad4.add v) = some (.slice a' (rowG T2 v).length c') ∧ Ints U U.heap.size a' (rowG T2 v)) := fun v hv => by
                have hv2 : v < T2.length := by rw [HV2.out.2.2]; exact hv
                obtain ⟨a', c', -, h1, h2⟩ := htc4 v T2[v] (List.getElem?_eq_getElem hv2)
                refine ⟨a', c', fun U q => ?_⟩
                unfold rowG
                rw [rows_at hv2]
                exact ⟨(q.cell (by rw [Tr.add_block]; exact htb4)).trans h1, (h2.q q).ints⟩
              have HsameP : Hid (∀ v, v ≠ g → rowG P2 v = rowG P v) := fun v hv => by unfold rowG; rw [HP2.out, Go.Proofs.YtjmopbimleoidaaGreat.Ig.getD_set_ne (Ne.symm hv)]
              have HsameT : Hid (∀ v, v ≠ g → rowG T2 v = rowG T v) := fun v hv => by unfold rowG; rw [HT2.out, Go.Proofs.YtjmopbimleoidaaGreat.Ig.getD_set_ne (Ne.symm hv)]
              have HnilP : Hid (rowG P2 g = []) := by unfold Hid rowG; rw [HP2.out, Go.Proofs.YtjmopbimleoidaaGreat.Ig.getD_set_eq hPl]
              have HnilT : Hid (rowG T2 g = []) := by unfold Hid rowG; rw [HT2.out, Go.Proofs.YtjmopbimleoidaaGreat.Ig.getD_set_eq hTl]
              have HlP : Hid (∀ v, (rowG P v).length ≤ 1000) := fun v => by
                unfold rowG
                by_cases hv : v < P.length
                · rw [rows_at hv]; exact HF.out.2.2.2.2.1 _ (List.getElem_mem _)
                · rw [List.getD_eq_getElem?_getD, List.getElem?_eq_none (by omega)]; simp
              have HlT : Hid (∀ v, (rowG T v).length ≤ 1000) := fun v => by
                unfold rowG
                by_cases hv : v < T.length
                · rw [rows_at hv]; exact HF.out.2.2.2.2.2 _ (List.getElem_mem _)
                · rw [List.getD_eq_getElem?_getD, List.getElem?_eq_none (by omega)]; simp
              subst hpa hta hpa4 hta4
              have Hor := Lib.hid hor
              clear hpc htc hpc4 htc4 hpb2 htb2 hpb4 htb4 hc2 hP2 hT2 hl2 hgl hJ hab hRt hcl2 hor hp1 hq1 hp hq hpq hPl hTl hf hg hV1
              go_upto_region 16 with (go_at_call 15; refine (CR.out w6 HQ6.out).mono ?_; rintro e w7 ⟨rfl, q7⟩; have HQ7 := Lib.hid (HQ6.out.trans q7); clear q7; clear s0 s1 s2 s3 s4 s5 s6 s7 m0 m1 m2 m3 m4 m5; obtain ⟨s0, s1, s2, s3, s4, s5, s6, s7, m0, m1, m2, m3, m4, m5⟩ := ALL4.out w7 HQ7.out)
              clear CR e1
              rcases Hor.out with ⟨rfl, rfl⟩ | ⟨rfl, rfl⟩
              · have CIx := Lib.hid CFa2.out
                go_upto_region 19 with (first
                  | (go_at_call 14; (with_reducible refine (CFa2.out w7 HQ7.out).mono ?_); rintro e w8 ⟨rfl, q8⟩; have HQ8 := Lib.hid (HQ7.out.trans q8); clear q8; clear s0 s1 s2 s3 s4 s5 s6 s7 m0 m1 m2 m3 m4 m5; obtain ⟨s0, s1, s2, s3, s4, s5, s6, s7, m0, m1, m2, m3, m4, m5⟩ := ALL4.out w8 HQ8.out)
                  | (go_at_call 14; (with_reducible refine (CFb2.out w8 HQ8.out).mono ?_); rintro e w9 ⟨rfl, q9⟩; have HQ9 := Lib.hid (HQ8.out.trans q9); clear q9; clear s0 s1 s2 s3 s4 s5 s6 s7 m0 m1 m2 m3 m4 m5; obtain ⟨s0, s1, s2, s3, s4, s5, s6, s7, m0, m1, m2, m3, m4, m5⟩ := ALL4.out w9 HQ9.out)
                  | fail)
                have hpq1 : (f : Int) + (g : Int) - (f : Int) = (g : Int) := by omega
                have hpq2 : (f : Int) + (g : Int) - (g : Int) = (f : Int) := by omega
                go_wp2_with fail
                clear s0 s1 s2 s3 s4 s5 s6 s7 m0 m1 m2 m3 m4 m5 CFa2 CFb2 CIx
                go_loopw [15] (fun i wr => ∃ v : Nat, v ≤ c.V.length ∧ i = .int .i64 v ∧ Hid (Q u4 wr)) (fun i _ => c.V.length - (intOf i).toNat)
                case atStart => exact ⟨0, Nat.zero_le _, rfl, HQ9⟩
                case round =>
                  obtain ⟨v, hvl, rfl, HQr⟩ := hrel
                  obtain ⟨s0, s1, s2, s3, s4, s5, s6, s7, m0, m1, m2, m3, m4, m5⟩ := ALL4.out wr HQr.out
                  by_cases hlt : v < c.V.length
                  · have d1 : decide ((v : Int) < (c.V.length : Int)) = true := decide_eq_true (by omega)
                    have d2 : decide (v < c.V.length) = true := decide_eq_true hlt
                    have hvP : v < P.length := by rw [HpT.out.1]; exact hlt
                    have hvT : v < T.length := by rw [HpT.out.2]; exact hlt
                    have j1 : (v : Int) < (P.length : Int) := by omega
                    have j2 : (v : Int) < (T.length : Int) := by omega
                    have j0 : (0 : Int) ≤ (v : Int) := Int.natCast_nonneg _
                    have hV1 : c.V.length ≤ 1000 := HF.out.2.1.1
                    obtain ⟨ra, rc, hra⟩ := HRP.out v hvP
                    obtain ⟨sa, sc, hsa⟩ := HRT.out v hvT
                    obtain ⟨ra4, rc4, hra4⟩ := HRP4.out v hvP
                    obtain ⟨sa4, sc4, hsa4⟩ := HRT4.out v hvT
                    have ALV : Hid (∀ U', Q u4 U' → U'.cell? ⟨V.heap.size, 4, none⟩ = some (.slice (some pad) P.length kp) ∧ U'.cell? ⟨V.heap.size, 5, none⟩ = some (.slice (some tad) T.length kt) ∧ U'.cell? ⟨Bm, 4, none⟩ = some (.slice (some pad4) P.length lp4) ∧ U'.cell? ⟨Bm, 5, none⟩ = some (.slice (some tad4) T.length lt4) ∧ U'.cell? (pad.add v) = some (.slice ra (rowG P v).length rc) ∧ U'.cell? (tad.add v) = some (.slice sa (rowG T v).length sc) ∧ U'.cell? (pad4.add v) = some (.slice ra4 (rowG P2 v).length rc4) ∧ U'.cell? (tad4.add v) = some (.slice sa4 (rowG T2 v).length sc4)) := fun U' q => by
                      obtain ⟨s0, s1, s2, s3, s4, s5, s6, s7, m0, m1, m2, m3, m4, m5⟩ := ALL4.out U' q
                      exact ⟨s6, s7, m4, m5, (hra U' q).1, (hsa U' q).1, (hra4 U' q).1, (hsa4 U' q).1⟩
                    go_upto_region 23 with fail
                    clear s0 s1 s2 s3 s4 s5 s6 s7 m0 m1 m2 m3 m4 m5 d1 d2
                    by_cases hvg : v = g
                    · have e5 : ((v : Int) != (g : Int)) = false := by rw [hvg]; simp
                      clear hvg hra hsa hra4 hsa4
                      refine wp_region_held_drew (S := fun U' => U'.cell? ⟨V.heap.size, 4, none⟩ = some (.slice (some pad) P.length kp) ∧ U'.cell? ⟨V.heap.size, 5, none⟩ = some (.slice (some tad) T.length kt) ∧ U'.cell? ⟨Bm, 4, none⟩ = some (.slice (some pad4) P.length lp4) ∧ U'.cell? ⟨Bm, 5, none⟩ = some (.slice (some tad4) T.length lt4) ∧ U'.cell? (pad.add v) = some (.slice ra (rowG P v).length rc) ∧ U'.cell? (tad.add v) = some (.slice sa (rowG T v).length sc) ∧ U'.cell? (pad4.add v) = some (.slice ra4 (rowG P2 v).length rc4) ∧ U'.cell? (tad4.add v) = some (.slice sa4 (rowG T2 v).length sc4)) (by kernel_rfl) ?_ (fun hHeld => ?_)
                      · exact ALV.out _ (HQr.out.trans (Q.refl wr).drew)
                      refine take_w (i := 0) (d := some 155) (v := ?_) rfl (by kernel_rfl) (by kernel_rfl) (by kernel_rfl) (fun _ _ _ h => h) rfl (by rfl) ?_ (by assumption) ?_
                      rotate_left
                      · (intro w hSw; (try dsimp only at hSw); go_simp; (try with_reducible rfl))
                      try simp only [Act.put, List.setIfInBounds_toArray, List.set_cons_zero, List.set_cons_succ]
                      refine take_w (i := 1) (d := some 156) (v := ?_) rfl (by kernel_rfl) (by kernel_rfl) (by kernel_rfl) (fun _ _ _ h => h) rfl (by rfl) ?_ (by assumption) ?_
                      rotate_left
                      · (intro w hSw; (try dsimp only at hSw); go_simp; (try with_reducible rfl))
                      try simp only [Act.put, List.setIfInBounds_toArray, List.set_cons_zero, List.set_cons_succ]
                      refine take_w (i := 2) (d := some 157) (v := ?_) rfl (by kernel_rfl) (by kernel_rfl) (by kernel_rfl) (fun _ _ _ h => h) rfl (by rfl) ?_ (by assumption) ?_
                      rotate_left
                      · (intro w hSw; (try dsimp only at hSw); go_simp; (try with_reducible rfl))
                      try simp only [Act.put, List.setIfInBounds_toArray, List.set_cons_zero, List.set_cons_succ]
                      refine take_w (i := 3) (d := some 158) (v := ?_) rfl (by kernel_rfl) (by kernel_rfl) (by kernel_rfl) (fun _ _ _ h => h) rfl (by rfl) ?_ (by assumption) ?_
                      rotate_left
                      · (intro w hSw; (try dsimp only at hSw); go_simp; (try with_reducible rfl))
                      try simp only [Act.put, List.setIfInBounds_toArray, List.set_cons_zero, List.set_cons_succ]
                      refine take_u (i := 4) (d := some 159) rfl (by kernel_rfl) (by kernel_rfl) (by kernel_rfl) (fun _ _ _ h => h) rfl (by rfl) (by assumption) ?_
                      try simp only [Act.put, List.setIfInBounds_toArray, List.set_cons_zero, List.set_cons_succ]
                      refine take_u (i := 5) (d := some 160) rfl (by kernel_rfl) (by kernel_rfl) (by kernel_rfl) (fun _ _ _ h => h) rfl (by rfl) (by assumption) ?_
                      try simp only [Act.put, List.setIfInBounds_toArray, List.set_cons_zero, List.set_cons_succ]
                      refine take_u (i := 6) (d := some 161) rfl (by kernel_rfl) (by kernel_rfl) (by kernel_rfl) (fun _ _ _ h => h) rfl (by rfl) (by assumption) ?_
                      try simp only [Act.put, List.setIfInBounds_toArray, List.set_cons_zero, List.set_cons_succ]
                      refine take_u (i := 7) (d := some 162) rfl (by kernel_rfl) (by kernel_rfl) (by kernel_rfl) (fun _ _ _ h => h) rfl (by rfl) (by assumption) ?_
                      try simp only [Act.put, List.setIfInBounds_toArray, List.set_cons_zero, List.set_cons_succ]
                      refine take_u (i := 8) (d := some 163) rfl (by kernel_rfl) (by kernel_rfl) (by kernel_rfl) (fun _ _ _ h => h) rfl (by rfl) (by assumption) ?_
                      try simp only [Act.put, List.setIfInBounds_toArray, List.set_cons_zero, List.set_cons_succ]
                      refine take_u (i := 9) (d := some 164) rfl (by kernel_rfl) (by kernel_rfl) (by kernel_rfl) (fun _ _ _ h => h) rfl (by rfl) (by assumption) ?_
                      try simp only [Act.put, List.setIfInBounds_toArray, List.set_cons_zero, List.set_cons_succ]
                      refine take_u (i := 10) (d := some 165) rfl (by kernel_rfl) (by kernel_rfl) (by kernel_rfl) (fun _ _ _ h => h) rfl (by rfl) (by assumption) ?_
                      try simp only [Act.put, List.setIfInBounds_toArray, List.set_cons_zero, List.set_cons_succ]
                      refine take_u (i := 11) (d := some 166) rfl (by kernel_rfl) (by kernel_rfl) (by kernel_rfl) (fun _ _ _ h => h) rfl (by rfl) (by assumption) ?_
                      try simp only [Act.put, List.setIfInBounds_toArray, List.set_cons_zero, List.set_cons_succ]
                      refine take_u (i := 12) (d := some 167) rfl (by kernel_rfl) (by kernel_rfl) (by kernel_rfl) (fun _ _ _ h => h) rfl (by rfl) (by assumption) ?_
                      try simp only [Act.put, List.setIfInBounds_toArray, List.set_cons_zero, List.set_cons_succ]
                      refine take_u (i := 13) (d := some 168) rfl (by kernel_rfl) (by kernel_rfl) (by kernel_rfl) (fun _ _ _ h => h) rfl (by rfl) (by assumption) ?_
                      try simp only [Act.put, List.setIfInBounds_toArray, List.set_cons_zero, List.set_cons_succ]
                      refine take_u (i := 14) (d := some 169) rfl (by kernel_rfl) (by kernel_rfl) (by kernel_rfl) (fun _ _ _ h => h) rfl (by rfl) (by assumption) ?_
                      try simp only [Act.put, List.setIfInBounds_toArray, List.set_cons_zero, List.set_cons_succ]
                      refine take_u (i := 15) (d := some 170) rfl (by kernel_rfl) (by kernel_rfl) (by kernel_rfl) (fun _ _ _ h => h) rfl (by rfl) (by assumption) ?_
                      try simp only [Act.put, List.setIfInBounds_toArray, List.set_cons_zero, List.set_cons_succ]
                      refine take_u (i := 16) (d := some 171) rfl (by kernel_rfl) (by kernel_rfl) (by kernel_rfl) (fun _ _ _ h => h) rfl (by rfl) (by assumption) ?_
                      try simp only [Act.put, List.setIfInBounds_toArray, List.set_cons_zero, List.set_cons_succ]
                      refine take_u (i := 17) (d := some 172) rfl (by kernel_rfl) (by kernel_rfl) (by kernel_rfl) (fun _ _ _ h => h) rfl (by rfl) (by assumption) ?_
                      try simp only [Act.put, List.setIfInBounds_toArray, List.set_cons_zero, List.set_cons_succ]
                      refine take_u (i := 18) (d := some 173) rfl (by kernel_rfl) (by kernel_rfl) (by kernel_rfl) (fun _ _ _ h => h) rfl (by rfl) (by assumption) ?_
                      try simp only [Act.put, List.setIfInBounds_toArray, List.set_cons_zero, List.set_cons_succ]
                      refine take_u (i := 19) (d := some 174) rfl (by kernel_rfl) (by kernel_rfl) (by kernel_rfl) (fun _ _ _ h => h) rfl (by rfl) (by assumption) ?_
                      try simp only [Act.put, List.setIfInBounds_toArray, List.set_cons_zero, List.set_cons_succ]
                      refine take_u (i := 20) (d := some 175) rfl (by kernel_rfl) (by kernel_rfl) (by kernel_rfl) (fun _ _ _ h => h) rfl (by rfl) (by assumption) ?_
                      try simp only [Act.put, List.setIfInBounds_toArray, List.set_cons_zero, List.set_cons_succ]
                      refine take_u (i := 21) (d := some 176) rfl (by kernel_rfl) (by kernel_rfl) (by kernel_rfl) (fun _ _ _ h => h) rfl (by rfl) (by assumption) ?_
                      try simp only [Act.put, List.setIfInBounds_toArray, List.set_cons_zero, List.set_cons_succ]
                      refine take_u (i := 22) (d := some 177) rfl (by kernel_rfl) (by kernel_rfl) (by kernel_rfl) (fun _ _ _ h => h) rfl (by rfl) (by assumption) ?_
                      try simp only [Act.put, List.setIfInBounds_toArray, List.set_cons_zero, List.set_cons_succ]
                      refine take_u (i := 23) (d := some 178) rfl (by kernel_rfl) (by kernel_rfl) (by kernel_rfl) (fun _ _ _ h => h) rfl (by rfl) (by assumption) ?_
                      try simp only [Act.put, List.setIfInBounds_toArray, List.set_cons_zero, List.set_cons_succ]
                      refine take_u (i := 24) (d := some 179) rfl (by kernel_rfl) (by kernel_rfl) (by kernel_rfl) (fun _ _ _ h => h) rfl (by rfl) (by assumption) ?_
                      try simp only [Act.put, List.setIfInBounds_toArray, List.set_cons_zero, List.set_cons_succ]
                      refine take_u (i := 25) (d := some 180) rfl (by kernel_rfl) (by kernel_rfl) (by kernel_rfl) (fun _ _ _ h => h) rfl (by rfl) (by assumption) ?_
                      try simp only [Act.put, List.setIfInBounds_toArray, List.set_cons_zero, List.set_cons_succ]
                      refine take_u (i := 26) (d := some 181) rfl (by kernel_rfl) (by kernel_rfl) (by kernel_rfl) (fun _ _ _ h => h) rfl (by rfl) (by assumption) ?_
                      try simp only [Act.put, List.setIfInBounds_toArray, List.set_cons_zero, List.set_cons_succ]
                      refine take_u (i := 27) (d := some 182) rfl (by kernel_rfl) (by kernel_rfl) (by kernel_rfl) (fun _ _ _ h => h) rfl (by rfl) (by assumption) ?_
                      try simp only [Act.put, List.setIfInBounds_toArray, List.set_cons_zero, List.set_cons_succ]
                      refine take_u (i := 28) (d := some 183) rfl (by kernel_rfl) (by kernel_rfl) (by kernel_rfl) (fun _ _ _ h => h) rfl (by rfl) (by assumption) ?_
                      try simp only [Act.put, List.setIfInBounds_toArray, List.set_cons_zero, List.set_cons_succ]
                      refine take_u (i := 29) (d := some 184) rfl (by kernel_rfl) (by kernel_rfl) (by kernel_rfl) (fun _ _ _ h => h) rfl (by rfl) (by assumption) ?_
                      try simp only [Act.put, List.setIfInBounds_toArray, List.set_cons_zero, List.set_cons_succ]
                      refine take_w (i := 30) (d := some 185) (v := ?_) rfl (by kernel_rfl) (by kernel_rfl) (by kernel_rfl) (fun _ _ _ h => h) rfl (by rfl) ?_ (by assumption) ?_
                      rotate_left
                      · (intro w hSw; (try dsimp only at hSw); go_simp; (try with_reducible rfl))
                      try simp only [Act.put, List.setIfInBounds_toArray, List.set_cons_zero, List.set_cons_succ]
                      refine wpAnyH_done (by kernel_rfl) ?_ _
                      go_wp2_with fail
                      go_roundw
                      case rel => exact ⟨v + 1, by omega, by go_num, Lib.hid HQr.out.drew⟩
                      case measure => simp [intOf]; omega
                    · have e5 : ((v : Int) != (g : Int)) = true := by rw [bne_iff_ne]; omega
                      have CI1 : Hid (∀ U, Q u4 U → Calls Tryz.prog 16 #[.slice ra (rowG P v).length rc, .slice ra4 (rowG P2 v).length rc4] U fun e w' => e = .returned (.bool true) ∧ Q U w') := fun U q => by
                        refine (Hs.refInts_any ra ra4 _ rc _ rc4 (rowG P v) (rowG P2 v) U rfl rfl (hra U q).2 (hra4 U q).2 (by have := HlP.out v; unfold maxLen; omega)).mono ?_
                        rintro e w' ⟨rfl, dd, rfl⟩
                        exact ⟨by rw [HsameP.out v hvg, (Hs.eqL_iff _ _).2 rfl], (Q.refl _).drewN dd⟩
                      have CI2 : Hid (∀ U, Q u4 U → Calls Tryz.prog 16 #[.slice sa (rowG T v).length sc, .slice sa4 (rowG T2 v).length sc4] U fun e w' => e = .returned (.bool true) ∧ Q U w') := fun U q => by
                        refine (Hs.refInts_any sa sa4 _ sc _ sc4 (rowG T v) (rowG T2 v) U rfl rfl (hsa U q).2 (hsa4 U q).2 (by have := HlT.out v; unfold maxLen; omega)).mono ?_
                        rintro e w' ⟨rfl, dd, rfl⟩
                        exact ⟨by rw [HsameT.out v hvg, (Hs.eqL_iff _ _).2 rfl], (Q.refl _).drewN dd⟩
                      clear hvg hra hsa hra4 hsa4
                      refine wp_region_held_drew (S := fun U' => U'.cell? ⟨V.heap.size, 4, none⟩ = some (.slice (some pad) P.length kp) ∧ U'.cell? ⟨V.heap.size, 5, none⟩ = some (.slice (some tad) T.length kt) ∧ U'.cell? ⟨Bm, 4, none⟩ = some (.slice (some pad4) P.length lp4) ∧ U'.cell? ⟨Bm, 5, none⟩ = some (.slice (some tad4) T.length lt4) ∧ U'.cell? (pad.add v) = some (.slice ra (rowG P v).length rc) ∧ U'.cell? (tad.add v) = some (.slice sa (rowG T v).length sc) ∧ U'.cell? (pad4.add v) = some (.slice ra4 (rowG P2 v).length rc4) ∧ U'.cell? (tad4.add v) = some (.slice sa4 (rowG T2 v).length sc4)) (by kernel_rfl) ?_ (fun hHeld => ?_)
                      · exact ALV.out _ (HQr.out.trans (Q.refl wr).drew)
                      refine take_w (i := 0) (d := some 155) (v := ?_) rfl (by kernel_rfl) (by kernel_rfl) (by kernel_rfl) (fun _ _ _ h => h) rfl (by rfl) ?_ (by assumption) ?_
                      rotate_left
                      · (intro w hSw; (try dsimp only at hSw); go_simp; (try with_reducible rfl))
                      try simp only [Act.put, List.setIfInBounds_toArray, List.set_cons_zero, List.set_cons_succ]
                      refine take_w (i := 1) (d := some 156) (v := ?_) rfl (by kernel_rfl) (by kernel_rfl) (by kernel_rfl) (fun _ _ _ h => h) rfl (by rfl) ?_ (by assumption) ?_
                      rotate_left
                      · (intro w hSw; (try dsimp only at hSw); go_simp; (try with_reducible rfl))
                      try simp only [Act.put, List.setIfInBounds_toArray, List.set_cons_zero, List.set_cons_succ]
                      refine take_w (i := 2) (d := some 157) (v := ?_) rfl (by kernel_rfl) (by kernel_rfl) (by kernel_rfl) (fun _ _ _ h => h) rfl (by rfl) ?_ (by assumption) ?_
                      rotate_left
                      · (intro w hSw; (try dsimp only at hSw); go_simp; (try with_reducible rfl))
                      try simp only [Act.put, List.setIfInBounds_toArray, List.set_cons_zero, List.set_cons_succ]
                      refine take_w (i := 3) (d := some 158) (v := ?_) rfl (by kernel_rfl) (by kernel_rfl) (by kernel_rfl) (fun _ _ _ h => h) rfl (by rfl) ?_ (by assumption) ?_
                      rotate_left
                      · (intro w hSw; (try dsimp only at hSw); go_simp; (try with_reducible rfl))
                      try simp only [Act.put, List.setIfInBounds_toArray, List.set_cons_zero, List.set_cons_succ]
                      refine take_w (i := 4) (d := some 159) (v := ?_) rfl (by kernel_rfl) (by kernel_rfl) (by kernel_rfl) (fun _ _ _ h => h) rfl (by rfl) ?_ (by assumption) ?_
                      rotate_left
                      · (intro w hSw; (try dsimp only at hSw); go_simp; (try with_reducible rfl))
                      try simp only [Act.put, List.setIfInBounds_toArray, List.set_cons_zero, List.set_cons_succ]
                      refine take_w (i := 5) (d := some 160) (v := ?_) rfl (by kernel_rfl) (by kernel_rfl) (by kernel_rfl) (fun _ _ _ h => h) rfl (by rfl) ?_ (by assumption) ?_
                      rotate_left
                      · (intro w hSw; (try dsimp only at hSw); go_simp; (try with_reducible rfl))
                      try simp only [Act.put, List.setIfInBounds_toArray, List.set_cons_zero, List.set_cons_succ]
                      refine take_w (i := 6) (d := some 161) (v := ?_) rfl (by kernel_rfl) (by kernel_rfl) (by kernel_rfl) (fun _ _ _ h => h) rfl (by rfl) ?_ (by assumption) ?_
                      rotate_left
                      · (intro w hSw; (try dsimp only at hSw); go_simp; (try with_reducible rfl))
                      try simp only [Act.put, List.setIfInBounds_toArray, List.set_cons_zero, List.set_cons_succ]
                      refine take_w (i := 7) (d := some 162) (v := ?_) rfl (by kernel_rfl) (by kernel_rfl) (by kernel_rfl) (fun _ _ _ h => h) rfl (by rfl) ?_ (by assumption) ?_
                      rotate_left
                      · (intro w hSw; (try dsimp only at hSw); go_simp; (try with_reducible rfl))
                      try simp only [Act.put, List.setIfInBounds_toArray, List.set_cons_zero, List.set_cons_succ]
                      refine take_w (i := 8) (d := some 163) (v := ?_) rfl (by kernel_rfl) (by kernel_rfl) (by kernel_rfl) (fun _ _ _ h => h) rfl (by rfl) ?_ (by assumption) ?_
                      rotate_left
                      · (intro w hSw; (try dsimp only at hSw); go_simp; (try with_reducible rfl))
                      try simp only [Act.put, List.setIfInBounds_toArray, List.set_cons_zero, List.set_cons_succ]
                      refine take_w (i := 9) (d := some 164) (v := ?_) rfl (by kernel_rfl) (by kernel_rfl) (by kernel_rfl) (fun _ _ _ h => h) rfl (by rfl) ?_ (by assumption) ?_
                      rotate_left
                      · (intro w hSw; (try dsimp only at hSw); go_simp; (try with_reducible rfl))
                      try simp only [Act.put, List.setIfInBounds_toArray, List.set_cons_zero, List.set_cons_succ]
                      refine take_w (i := 10) (d := some 165) (v := ?_) rfl (by kernel_rfl) (by kernel_rfl) (by kernel_rfl) (fun _ _ _ h => h) rfl (by rfl) ?_ (by assumption) ?_
                      rotate_left
                      · (intro w hSw; (try dsimp only at hSw); go_simp; (try with_reducible rfl))
                      try simp only [Act.put, List.setIfInBounds_toArray, List.set_cons_zero, List.set_cons_succ]
                      refine take_w (i := 11) (d := some 166) (v := ?_) rfl (by kernel_rfl) (by kernel_rfl) (by kernel_rfl) (fun _ _ _ h => h) rfl (by rfl) ?_ (by assumption) ?_
                      rotate_left
                      · (intro w hSw; (try dsimp only at hSw); go_simp; (try with_reducible rfl))
                      try simp only [Act.put, List.setIfInBounds_toArray, List.set_cons_zero, List.set_cons_succ]
                      refine take_w (i := 12) (d := some 167) (v := ?_) rfl (by kernel_rfl) (by kernel_rfl) (by kernel_rfl) (fun _ _ _ h => h) rfl (by rfl) ?_ (by assumption) ?_
                      rotate_left
                      · (intro w hSw; (try dsimp only at hSw); go_simp; (try with_reducible rfl))
                      try simp only [Act.put, List.setIfInBounds_toArray, List.set_cons_zero, List.set_cons_succ]
                      refine take_w (i := 13) (d := some 168) (v := ?_) rfl (by kernel_rfl) (by kernel_rfl) (by kernel_rfl) (fun _ _ _ h => h) rfl (by rfl) ?_ (by assumption) ?_
                      rotate_left
                      · (intro w hSw; (try dsimp only at hSw); go_simp; (try with_reducible rfl))
                      try simp only [Act.put, List.setIfInBounds_toArray, List.set_cons_zero, List.set_cons_succ]
                      refine call_w (i := 14) rfl (by kernel_rfl) (by rfl) (fun K hK => ?_)
                      go_simp
                      go_at_call 16
                      refine (CI1.out wr.drew (HQr.out.trans (Q.refl wr).drew)).mono ?_
                      rintro e w20 ⟨rfl, q20⟩
                      have HQ20 := Lib.hid ((HQr.out.trans (Q.refl wr).drew).trans q20)
                      clear q20
                      refine hK.out _ _ ?_ (fun hHeld => ?_)
                      · exact ALV.out _ HQ20.out
                      clear hK K
                      try simp only [Act.put, List.setIfInBounds_toArray, List.set_cons_zero, List.set_cons_succ]
                      refine take_w (i := 15) (d := some 170) (v := ?_) rfl (by kernel_rfl) (by kernel_rfl) (by kernel_rfl) (fun _ _ _ h => h) rfl (by rfl) ?_ (by assumption) ?_
                      rotate_left
                      · (intro w hSw; (try dsimp only at hSw); go_simp; (try with_reducible rfl))
                      try simp only [Act.put, List.setIfInBounds_toArray, List.set_cons_zero, List.set_cons_succ]
                      refine take_w (i := 16) (d := some 171) (v := ?_) rfl (by kernel_rfl) (by kernel_rfl) (by kernel_rfl) (fun _ _ _ h => h) rfl (by rfl) ?_ (by assumption) ?_
                      rotate_left
                      · (intro w hSw; (try dsimp only at hSw); go_simp; (try with_reducible rfl))
                      try simp only [Act.put, List.setIfInBounds_toArray, List.set_cons_zero, List.set_cons_succ]
                      refine take_w (i := 17) (d := some 172) (v := ?_) rfl (by kernel_rfl) (by kernel_rfl) (by kernel_rfl) (fun _ _ _ h => h) rfl (by rfl) ?_ (by assumption) ?_
                      rotate_left
                      · (intro w hSw; (try dsimp only at hSw); go_simp; (try with_reducible rfl))
                      try simp only [Act.put, List.setIfInBounds_toArray, List.set_cons_zero, List.set_cons_succ]
                      refine take_w (i := 18) (d := some 173) (v := ?_) rfl (by kernel_rfl) (by kernel_rfl) (by kernel_rfl) (fun _ _ _ h => h) rfl (by rfl) ?_ (by assumption) ?_
                      rotate_left
                      · (intro w hSw; (try dsimp only at hSw); go_simp; (try with_reducible rfl))
                      try simp only [Act.put, List.setIfInBounds_toArray, List.set_cons_zero, List.set_cons_succ]
                      refine take_w (i := 19) (d := some 174) (v := ?_) rfl (by kernel_rfl) (by kernel_rfl) (by kernel_rfl) (fun _ _ _ h => h) rfl (by rfl) ?_ (by assumption) ?_
                      rotate_left
                      · (intro w hSw; (try dsimp only at hSw); go_simp; (try with_reducible rfl))
                      try simp only [Act.put, List.setIfInBounds_toArray, List.set_cons_zero, List.set_cons_succ]
                      refine take_w (i := 20) (d := some 175) (v := ?_) rfl (by kernel_rfl) (by kernel_rfl) (by kernel_rfl) (fun _ _ _ h => h) rfl (by rfl) ?_ (by assumption) ?_
                      rotate_left
                      · (intro w hSw; (try dsimp only at hSw); go_simp; (try with_reducible rfl))
                      try simp only [Act.put, List.setIfInBounds_toArray, List.set_cons_zero, List.set_cons_succ]
                      refine take_w (i := 21) (d := some 176) (v := ?_) rfl (by kernel_rfl) (by kernel_rfl) (by kernel_rfl) (fun _ _ _ h => h) rfl (by rfl) ?_ (by assumption) ?_
                      rotate_left
                      · (intro w hSw; (try dsimp only at hSw); go_simp; (try with_reducible rfl))
                      try simp only [Act.put, List.setIfInBounds_toArray, List.set_cons_zero, List.set_cons_succ]
                      refine take_w (i := 22) (d := some 177) (v := ?_) rfl (by kernel_rfl) (by kernel_rfl) (by kernel_rfl) (fun _ _ _ h => h) rfl (by rfl) ?_ (by assumption) ?_
                      rotate_left
                      · (intro w hSw; (try dsimp only at hSw); go_simp; (try with_reducible rfl))
                      try simp only [Act.put, List.setIfInBounds_toArray, List.set_cons_zero, List.set_cons_succ]
                      refine take_w (i := 23) (d := some 178) (v := ?_) rfl (by kernel_rfl) (by kernel_rfl) (by kernel_rfl) (fun _ _ _ h => h) rfl (by rfl) ?_ (by assumption) ?_
                      rotate_left
                      · (intro w hSw; (try dsimp only at hSw); go_simp; (try with_reducible rfl))
                      try simp only [Act.put, List.setIfInBounds_toArray, List.set_cons_zero, List.set_cons_succ]
                      refine take_w (i := 24) (d := some 179) (v := ?_) rfl (by kernel_rfl) (by kernel_rfl) (by kernel_rfl) (fun _ _ _ h => h) rfl (by rfl) ?_ (by assumption) ?_
                      rotate_left
                      · (intro w hSw; (try dsimp only at hSw); go_simp; (try with_reducible rfl))
                      try simp only [Act.put, List.setIfInBounds_toArray, List.set_cons_zero, List.set_cons_succ]
                      refine take_w (i := 25) (d := some 180) (v := ?_) rfl (by kernel_rfl) (by kernel_rfl) (by kernel_rfl) (fun _ _ _ h => h) rfl (by rfl) ?_ (by assumption) ?_
                      rotate_left
                      · (intro w hSw; (try dsimp only at hSw); go_simp; (try with_reducible rfl))
                      try simp only [Act.put, List.setIfInBounds_toArray, List.set_cons_zero, List.set_cons_succ]
                      refine take_w (i := 26) (d := some 181) (v := ?_) rfl (by kernel_rfl) (by kernel_rfl) (by kernel_rfl) (fun _ _ _ h => h) rfl (by rfl) ?_ (by assumption) ?_
                      rotate_left
                      · (intro w hSw; (try dsimp only at hSw); go_simp; (try with_reducible rfl))
                      try simp only [Act.put, List.setIfInBounds_toArray, List.set_cons_zero, List.set_cons_succ]
                      refine call_w (i := 27) rfl (by kernel_rfl) (by rfl) (fun K hK => ?_)
                      go_simp
                      go_at_call 16
                      refine (CI2.out w20 HQ20.out).mono ?_
                      rintro e w21 ⟨rfl, q21⟩
                      have HQ21 := Lib.hid (HQ20.out.trans q21)
                      clear q21
                      refine hK.out _ _ ?_ (fun hHeld => ?_)
                      · exact ALV.out _ HQ21.out
                      clear hK K
                      try simp only [Act.put, List.setIfInBounds_toArray, List.set_cons_zero, List.set_cons_succ]
                      refine take_w (i := 28) (d := some 183) (v := ?_) rfl (by kernel_rfl) (by kernel_rfl) (by kernel_rfl) (fun _ _ _ h => h) rfl (by rfl) ?_ (by assumption) ?_
                      rotate_left
                      · (intro w hSw; (try dsimp only at hSw); go_simp; (try with_reducible rfl))
                      try simp only [Act.put, List.setIfInBounds_toArray, List.set_cons_zero, List.set_cons_succ]
                      refine take_w (i := 29) (d := some 184) (v := ?_) rfl (by kernel_rfl) (by kernel_rfl) (by kernel_rfl) (fun _ _ _ h => h) rfl (by rfl) ?_ (by assumption) ?_
                      rotate_left
                      · (intro w hSw; (try dsimp only at hSw); go_simp; (try with_reducible rfl))
                      try simp only [Act.put, List.setIfInBounds_toArray, List.set_cons_zero, List.set_cons_succ]
                      refine take_w (i := 30) (d := some 185) (v := ?_) rfl (by kernel_rfl) (by kernel_rfl) (by kernel_rfl) (fun _ _ _ h => h) rfl (by rfl) ?_ (by assumption) ?_
                      rotate_left
                      · (intro w hSw; (try dsimp only at hSw); go_simp; (try with_reducible rfl))
                      try simp only [Act.put, List.setIfInBounds_toArray, List.set_cons_zero, List.set_cons_succ]
                      refine wpAnyH_done (by kernel_rfl) ?_ _
                      go_wp2_with fail
                      go_roundw
                      case rel => exact ⟨v + 1, by omega, by go_num, HQ21⟩
                      case measure => simp [intOf]; omega
                  · obtain rfl : v = c.V.length := by omega
                    have d1 : decide ((c.V.length : Int) < (c.V.length : Int)) = false := decide_eq_false (by omega)
                    have d2 : decide (c.V.length < c.V.length) = false := decide_eq_false (by omega)
                    go_upto_region 26 with (go_at_call 17; refine (CAt.out wr HQr.out).mono ?_; rintro e w10 ⟨rfl, q10⟩; have HQ10 := Lib.hid (HQr.out.trans q10); clear q10)
                    clear s0 s1 s2 s3 s4 s5 s6 s7 m0 m1 m2 m3 m4 m5 d1 d2 hvl hlt HQr CAt
                    obtain ⟨at_, hat⟩ : ∃ at_, at_ = atV ks (f : Int) := ⟨_, rfl⟩
                    rw [← hat] at HL2 ⊢
                    clear hat
                    go_wp2_with fail
                    go_loopw [17] (fun i wr => ∃ j : Nat, j ≤ l2.length ∧ i = .int .i64 j ∧ Hid (Q u4 wr)) (fun i _ => l2.length - (intOf i).toNat)
                    case atStart => exact ⟨0, Nat.zero_le _, rfl, HQ10⟩
                    case round =>
                      obtain ⟨j, hjl, rfl, HQr2⟩ := hrel
                      have hL1 : l2.length ≤ 2000 := HF2.out.2.2.2
                      by_cases hlt : j < l2.length
                      · have d1 : decide ((j : Int) < (l2.length : Int)) = true := decide_eq_true (by omega)
                        have d2 : decide (j < l2.length) = true := decide_eq_true hlt
                        have j1 : (j : Int) < (l2.length : Int) := by omega
                        have j0 : (0 : Int) ≤ (j : Int) := Int.natCast_nonneg _
                        have hz : l2[j].1 = at_ ∨ l2[j].2 = at_ := come_at2 HL2.out (List.getElem?_eq_getElem hlt)
                        obtain ⟨xad, hxa, hxb, x0, x1⟩ := St.pair_at (HX4'.out.q HQr2.out) hlt
                        subst hxa
                        obtain ⟨z, hz0⟩ : ∃ z, z = l2[j] := ⟨_, rfl⟩
                        rw [← hz0] at hz x0 x1
                        clear hz0 hxb
                        by_cases h1 : z.1 = at_
                        · have e6 : (z.1 != at_) = false := by rw [h1]; simp
                          clear hz h1
                          go_wp2_with fail
                          go_roundw
                          case rel => exact ⟨j + 1, by omega, by go_num, HQr2⟩
                          case measure => simp [intOf]; omega
                        · have e6 : (z.1 != at_) = true := by rw [bne_iff_ne]; exact h1
                          have e7 : (z.2 != at_) = false := by rw [hz.resolve_left h1]; simp
                          clear hz h1
                          go_wp2_with fail
                          go_roundw
                          case rel => exact ⟨j + 1, by omega, by go_num, HQr2⟩
                          case measure => simp [intOf]; omega
                      · obtain rfl : j = l2.length := by omega
                        have d1 : decide ((l2.length : Int) < (l2.length : Int)) = false := decide_eq_false (by omega)
                        have d2 : decide (l2.length < l2.length) = false := decide_eq_false (by omega)
                        have hvP : g < P.length := by rw [HpT.out.1]; exact Hgl.out
                        have hvT : g < T.length := by rw [HpT.out.2]; exact Hgl.out
                        have k1' : (g : Int) < (P.length : Int) := by omega
                        have k2' : (g : Int) < (T.length : Int) := by omega
                        obtain ⟨ra, rc, hra⟩ := HRP.out g hvP
                        obtain ⟨sa, sc, hsa⟩ := HRT.out g hvT
                        obtain ⟨ra4, rc4, hra4⟩ := HRP4.out g hvP
                        obtain ⟨sa4, sc4, hsa4⟩ := HRT4.out g hvT
                        have ALV : Hid (∀ U', Q u4 U' → U'.cell? ⟨V.heap.size, 4, none⟩ = some (.slice (some pad) P.length kp) ∧ U'.cell? ⟨V.heap.size, 5, none⟩ = some (.slice (some tad) T.length kt) ∧ U'.cell? ⟨Bm, 4, none⟩ = some (.slice (some pad4) P.length lp4) ∧ U'.cell? ⟨Bm, 5, none⟩ = some (.slice (some tad4) T.length lt4) ∧ U'.cell? (pad.add g) = some (.slice ra (rowG P g).length rc) ∧ U'.cell? (tad.add g) = some (.slice sa (rowG T g).length sc) ∧ U'.cell? (pad4.add g) = some (.slice ra4 (rowG P2 g).length rc4) ∧ U'.cell? (tad4.add g) = some (.slice sa4 (rowG T2 g).length sc4)) := fun U' q => by
                          obtain ⟨s0, s1, s2, s3, s4, s5, s6, s7, m0, m1, m2, m3, m4, m5⟩ := ALL4.out U' q
                          exact ⟨s6, s7, m4, m5, (hra U' q).1, (hsa U' q).1, (hra4 U' q).1, (hsa4 U' q).1⟩
                        rw [HnilP.out, HnilT.out] at ALV
                        have ALE : Hid (∀ U', Q u4 U' → U'.cell? ⟨V.heap.size, 4, none⟩ = some (.slice (some pad) P.length kp) ∧ U'.cell? ⟨V.heap.size, 5, none⟩ = some (.slice (some tad) T.length kt) ∧ U'.cell? ⟨Bm, 4, none⟩ = some (.slice (some pad4) P.length lp4) ∧ U'.cell? ⟨Bm, 5, none⟩ = some (.slice (some tad4) T.length lt4) ∧ U'.cell? (pad.add g) = some (.slice ra (rowG P g).length rc) ∧ U'.cell? (tad.add g) = some (.slice sa (rowG T g).length sc) ∧ U'.cell? (pad4.add g) = some (.slice ra4 0 rc4) ∧ U'.cell? (tad4.add g) = some (.slice sa4 0 sc4)) := ALV
                        have hlp : (rowG P g).length ≤ 1000 := HlP.out _
                        have hlt2 : (rowG T g).length ≤ 1000 := HlT.out _
                        have e8 : ((l2.length : Int) == ((rowG P g).length : Int) + ((rowG T g).length : Int)) = true := by
                          rw [HL2.out, come_len, beq_iff_eq]; omega
                        have hsum : l2.length = (rowG P g).length + (rowG T g).length := by rw [HL2.out, come_len]
                        have ew : IntKind.i64.wrap (((rowG P g).length : Int) + ((rowG T g).length : Int)) = ((rowG P g).length : Int) + ((rowG T g).length : Int) := IntWalk.i64_in _ (by omega)
                        have ew0 : IntKind.i64.wrap 0 = 0 := by decide
                        clear hsum
                        clear hra hsa hra4 hsa4 ALV
                        go_upto_region 31 with fail
                        clear d1 d2
                        refine wp_region_held_drew (S := fun U' => U'.cell? ⟨V.heap.size, 4, none⟩ = some (.slice (some pad) P.length kp) ∧ U'.cell? ⟨V.heap.size, 5, none⟩ = some (.slice (some tad) T.length kt) ∧ U'.cell? ⟨Bm, 4, none⟩ = some (.slice (some pad4) P.length lp4) ∧ U'.cell? ⟨Bm, 5, none⟩ = some (.slice (some tad4) T.length lt4) ∧ U'.cell? (pad.add g) = some (.slice ra (rowG P g).length rc) ∧ U'.cell? (tad.add g) = some (.slice sa (rowG T g).length sc) ∧ U'.cell? (pad4.add g) = some (.slice ra4 0 rc4) ∧ U'.cell? (tad4.add g) = some (.slice sa4 0 sc4)) (by kernel_rfl) ?_ (fun hHeld => ?_)
                        · exact ALE.out _ (HQr2.out.trans (Q.refl wr).drew)
                        refine take_w (i := 0) (d := some 211) (v := ?_) rfl (by kernel_rfl) (by kernel_rfl) (by kernel_rfl) (fun _ _ _ h => h) rfl (by rfl) ?_ (by assumption) ?_
                        rotate_left
                        · (intro w hSw; (try dsimp only at hSw); go_simp; (try with_reducible rfl))
                        try simp only [Act.put, List.setIfInBounds_toArray, List.set_cons_zero, List.set_cons_succ]
                        refine take_w (i := 1) (d := some 212) (v := ?_) rfl (by kernel_rfl) (by kernel_rfl) (by kernel_rfl) (fun _ _ _ h => h) rfl (by rfl) ?_ (by assumption) ?_
                        rotate_left
                        · (intro w hSw; (try dsimp only at hSw); go_simp; (try with_reducible rfl))
                        try simp only [Act.put, List.setIfInBounds_toArray, List.set_cons_zero, List.set_cons_succ]
                        refine take_w (i := 2) (d := some 213) (v := ?_) rfl (by kernel_rfl) (by kernel_rfl) (by kernel_rfl) (fun _ _ _ h => h) rfl (by rfl) ?_ (by assumption) ?_
                        rotate_left
                        · (intro w hSw; (try dsimp only at hSw); go_simp; (try with_reducible rfl))
                        try simp only [Act.put, List.setIfInBounds_toArray, List.set_cons_zero, List.set_cons_succ]
                        refine take_w (i := 3) (d := some 214) (v := ?_) rfl (by kernel_rfl) (by kernel_rfl) (by kernel_rfl) (fun _ _ _ h => h) rfl (by rfl) ?_ (by assumption) ?_
                        rotate_left
                        · (intro w hSw; (try dsimp only at hSw); go_simp; (try with_reducible rfl))
                        try simp only [Act.put, List.setIfInBounds_toArray, List.set_cons_zero, List.set_cons_succ]
                        refine take_w (i := 4) (d := some 215) (v := ?_) rfl (by kernel_rfl) (by kernel_rfl) (by kernel_rfl) (fun _ _ _ h => h) rfl (by rfl) ?_ (by assumption) ?_
                        rotate_left
                        · (intro w hSw; (try dsimp only at hSw); go_simp; (try with_reducible rfl))
                        try simp only [Act.put, List.setIfInBounds_toArray, List.set_cons_zero, List.set_cons_succ]
                        refine take_w (i := 5) (d := some 216) (v := ?_) rfl (by kernel_rfl) (by kernel_rfl) (by kernel_rfl) (fun _ _ _ h => h) rfl (by rfl) ?_ (by assumption) ?_
                        rotate_left
                        · (intro w hSw; (try dsimp only at hSw); go_simp; (try with_reducible rfl))
                        try simp only [Act.put, List.setIfInBounds_toArray, List.set_cons_zero, List.set_cons_succ]
                        refine take_w (i := 6) (d := some 217) (v := ?_) rfl (by kernel_rfl) (by kernel_rfl) (by kernel_rfl) (fun _ _ _ h => h) rfl (by rfl) ?_ (by assumption) ?_
                        rotate_left
                        · (intro w hSw; (try dsimp only at hSw); go_simp; (try with_reducible rfl))
                        try simp only [Act.put, List.setIfInBounds_toArray, List.set_cons_zero, List.set_cons_succ]
                        refine take_w (i := 7) (d := some 218) (v := ?_) rfl (by kernel_rfl) (by kernel_rfl) (by kernel_rfl) (fun _ _ _ h => h) rfl (by rfl) ?_ (by assumption) ?_
                        rotate_left
                        · (intro w hSw; (try dsimp only at hSw); go_simp; (try with_reducible rfl))
                        try simp only [Act.put, List.setIfInBounds_toArray, List.set_cons_zero, List.set_cons_succ]
                        refine take_w (i := 8) (d := some 219) (v := ?_) rfl (by kernel_rfl) (by kernel_rfl) (by kernel_rfl) (fun _ _ _ h => h) rfl (by rfl) ?_ (by assumption) ?_
                        rotate_left
                        · (intro w hSw; (try dsimp only at hSw); go_simp; (try with_reducible rfl))
                        try simp only [Act.put, List.setIfInBounds_toArray, List.set_cons_zero, List.set_cons_succ]
                        refine take_w (i := 9) (d := some 220) (v := ?_) rfl (by kernel_rfl) (by kernel_rfl) (by kernel_rfl) (fun _ _ _ h => h) rfl (by rfl) ?_ (by assumption) ?_
                        rotate_left
                        · (intro w hSw; (try dsimp only at hSw); go_simp; (try with_reducible rfl))
                        try simp only [Act.put, List.setIfInBounds_toArray, List.set_cons_zero, List.set_cons_succ]
                        refine take_w (i := 10) (d := some 221) (v := ?_) rfl (by kernel_rfl) (by kernel_rfl) (by kernel_rfl) (fun _ _ _ h => h) rfl (by rfl) ?_ (by assumption) ?_
                        rotate_left
                        · (intro w hSw; (try dsimp only at hSw); go_simp; (try with_reducible rfl))
                        try simp only [Act.put, List.setIfInBounds_toArray, List.set_cons_zero, List.set_cons_succ]
                        refine take_w (i := 11) (d := some 222) (v := ?_) rfl (by kernel_rfl) (by kernel_rfl) (by kernel_rfl) (fun _ _ _ h => h) rfl (by rfl) ?_ (by assumption) ?_
                        rotate_left
                        · (intro w hSw; (try dsimp only at hSw); go_simp; (try with_reducible rfl))
                        try simp only [Act.put, List.setIfInBounds_toArray, List.set_cons_zero, List.set_cons_succ]
                        refine take_w (i := 12) (d := some 223) (v := ?_) rfl (by kernel_rfl) (by kernel_rfl) (by kernel_rfl) (fun _ _ _ h => h) rfl (by rfl) ?_ (by assumption) ?_
                        rotate_left
                        · (intro w hSw; (try dsimp only at hSw); go_simp; (try with_reducible rfl))
                        try simp only [Act.put, List.setIfInBounds_toArray, List.set_cons_zero, List.set_cons_succ]
                        refine take_w (i := 13) (d := some 224) (v := ?_) rfl (by kernel_rfl) (by kernel_rfl) (by kernel_rfl) (fun _ _ _ h => h) rfl (by rfl) ?_ (by assumption) ?_
                        rotate_left
                        · (intro w hSw; (try dsimp only at hSw); go_simp; (try with_reducible rfl))
                        try simp only [Act.put, List.setIfInBounds_toArray, List.set_cons_zero, List.set_cons_succ]
                        refine take_w (i := 14) (d := some 225) (v := ?_) rfl (by kernel_rfl) (by kernel_rfl) (by kernel_rfl) (fun _ _ _ h => h) rfl (by rfl) ?_ (by assumption) ?_
                        rotate_left
                        · (intro w hSw; (try dsimp only at hSw); go_simp; (try with_reducible rfl))
                        try simp only [Act.put, List.setIfInBounds_toArray, List.set_cons_zero, List.set_cons_succ]
                        refine take_w (i := 15) (d := some 226) (v := ?_) rfl (by kernel_rfl) (by kernel_rfl) (by kernel_rfl) (fun _ _ _ h => h) rfl (by rfl) ?_ (by assumption) ?_
                        rotate_left
                        · (intro w hSw; (try dsimp only at hSw); go_simp; (try with_reducible rfl))
                        try simp only [Act.put, List.setIfInBounds_toArray, List.set_cons_zero, List.set_cons_succ]
                        refine take_w (i := 16) (d := some 227) (v := ?_) rfl (by kernel_rfl) (by kernel_rfl) (by kernel_rfl) (fun _ _ _ h => h) rfl (by rfl) ?_ (by assumption) ?_
                        rotate_left
                        · (intro w hSw; (try dsimp only at hSw); go_simp; (try with_reducible rfl))
                        try simp only [Act.put, List.setIfInBounds_toArray, List.set_cons_zero, List.set_cons_succ]
                        refine take_w (i := 17) (d := some 228) (v := ?_) rfl (by kernel_rfl) (by kernel_rfl) (by kernel_rfl) (fun _ _ _ h => h) rfl (by rfl) ?_ (by assumption) ?_
                        rotate_left
                        · (intro w hSw; (try dsimp only at hSw); go_simp; (try with_reducible rfl))
                        try simp only [Act.put, List.setIfInBounds_toArray, List.set_cons_zero, List.set_cons_succ]
                        refine take_w (i := 18) (d := some 229) (v := ?_) rfl (by kernel_rfl) (by kernel_rfl) (by kernel_rfl) (fun _ _ _ h => h) rfl (by rfl) ?_ (by assumption) ?_
                        rotate_left
                        · (intro w hSw; (try dsimp only at hSw); go_simp; (try with_reducible rfl))
                        try simp only [Act.put, List.setIfInBounds_toArray, List.set_cons_zero, List.set_cons_succ]
                        refine take_w (i := 19) (d := some 230) (v := ?_) rfl (by kernel_rfl) (by kernel_rfl) (by kernel_rfl) (fun _ _ _ h => h) rfl (by rfl) ?_ (by assumption) ?_
                        rotate_left
                        · (intro w hSw; (try dsimp only at hSw); go_simp; (try with_reducible rfl))
                        try simp only [Act.put, List.setIfInBounds_toArray, List.set_cons_zero, List.set_cons_succ]
                        refine take_w (i := 20) (d := some 231) (v := ?_) rfl (by kernel_rfl) (by kernel_rfl) (by kernel_rfl) (fun _ _ _ h => h) rfl (by rfl) ?_ (by assumption) ?_
                        rotate_left
                        · (intro w hSw; (try dsimp only at hSw); go_simp; (try with_reducible rfl))
                        try simp only [Act.put, List.setIfInBounds_toArray, List.set_cons_zero, List.set_cons_succ]
                        refine take_w (i := 21) (d := some 232) (v := ?_) rfl (by kernel_rfl) (by kernel_rfl) (by kernel_rfl) (fun _ _ _ h => h) rfl (by rfl) ?_ (by assumption) ?_
                        rotate_left
                        · (intro w hSw; (try dsimp only at hSw); go_simp; (try with_reducible rfl))
                        try simp only [Act.put, List.setIfInBounds_toArray, List.set_cons_zero, List.set_cons_succ]
                        refine take_w (i := 22) (d := some 233) (v := ?_) rfl (by kernel_rfl) (by kernel_rfl) (by kernel_rfl) (fun _ _ _ h => h) rfl (by rfl) ?_ (by assumption) ?_
                        rotate_left
                        · (intro w hSw; (try dsimp only at hSw); go_simp; (try with_reducible rfl))
                        try simp only [Act.put, List.setIfInBounds_toArray, List.set_cons_zero, List.set_cons_succ]
                        refine take_w (i := 23) (d := some 234) (v := ?_) rfl (by kernel_rfl) (by kernel_rfl) (by kernel_rfl) (fun _ _ _ h => h) rfl (by rfl) ?_ (by assumption) ?_
                        rotate_left
                        · (intro w hSw; (try dsimp only at hSw); go_simp; (try with_reducible rfl))
                        try simp only [Act.put, List.setIfInBounds_toArray, List.set_cons_zero, List.set_cons_succ]
                        refine take_w (i := 24) (d := some 235) (v := ?_) rfl (by kernel_rfl) (by kernel_rfl) (by kernel_rfl) (fun _ _ _ h => h) rfl (by rfl) ?_ (by assumption) ?_
                        rotate_left
                        · (intro w hSw; (try dsimp only at hSw); go_simp; (try with_reducible rfl))
                        try simp only [Act.put, List.setIfInBounds_toArray, List.set_cons_zero, List.set_cons_succ]
                        refine take_w (i := 25) (d := some 236) (v := ?_) rfl (by kernel_rfl) (by kernel_rfl) (by kernel_rfl) (fun _ _ _ h => h) rfl (by rfl) ?_ (by assumption) ?_
                        rotate_left
                        · (intro w hSw; (try dsimp only at hSw); go_simp; (try with_reducible rfl))
                        try simp only [Act.put, List.setIfInBounds_toArray, List.set_cons_zero, List.set_cons_succ]
                        refine take_w (i := 26) (d := some 237) (v := ?_) rfl (by kernel_rfl) (by kernel_rfl) (by kernel_rfl) (fun _ _ _ h => h) rfl (by rfl) ?_ (by assumption) ?_
                        rotate_left
                        · (intro w hSw; (try dsimp only at hSw); go_simp; (try with_reducible rfl))
                        try simp only [Act.put, List.setIfInBounds_toArray, List.set_cons_zero, List.set_cons_succ]
                        refine take_w (i := 27) (d := some 238) (v := ?_) rfl (by kernel_rfl) (by kernel_rfl) (by kernel_rfl) (fun _ _ _ h => h) rfl (by rfl) ?_ (by assumption) ?_
                        rotate_left
                        · (intro w hSw; (try dsimp only at hSw); go_simp; (try with_reducible rfl))
                        try simp only [Act.put, List.setIfInBounds_toArray, List.set_cons_zero, List.set_cons_succ]
                        refine take_w (i := 28) (d := some 239) (v := ?_) rfl (by kernel_rfl) (by kernel_rfl) (by kernel_rfl) (fun _ _ _ h => h) rfl (by rfl) ?_ (by assumption) ?_
                        rotate_left
                        · (intro w hSw; (try dsimp only at hSw); go_simp; (try with_reducible rfl))
                        try simp only [Act.put, List.setIfInBounds_toArray, List.set_cons_zero, List.set_cons_succ]
                        refine take_w (i := 29) (d := some 240) (v := ?_) rfl (by kernel_rfl) (by kernel_rfl) (by kernel_rfl) (fun _ _ _ h => h) rfl (by rfl) ?_ (by assumption) ?_
                        rotate_left
                        · (intro w hSw; (try dsimp only at hSw); go_simp; (try with_reducible rfl))
                        try simp only [Act.put, List.setIfInBounds_toArray, List.set_cons_zero, List.set_cons_succ]
                        refine take_w (i := 30) (d := some 241) (v := ?_) rfl (by kernel_rfl) (by kernel_rfl) (by kernel_rfl) (fun _ _ _ h => h) rfl (by rfl) ?_ (by assumption) ?_
                        rotate_left
                        · (intro w hSw; (try dsimp only at hSw); go_simp; (try with_reducible rfl))
                        try simp only [Act.put, List.setIfInBounds_toArray, List.set_cons_zero, List.set_cons_succ]
                        refine take_w (i := 31) (d := some 242) (v := ?_) rfl (by kernel_rfl) (by kernel_rfl) (by kernel_rfl) (fun _ _ _ h => h) rfl (by rfl) ?_ (by assumption) ?_
                        rotate_left
                        · (intro w hSw; (try dsimp only at hSw); go_simp; (try with_reducible rfl))
                        try simp only [Act.put, List.setIfInBounds_toArray, List.set_cons_zero, List.set_cons_succ]
                        refine take_w (i := 32) (d := some 243) (v := ?_) rfl (by kernel_rfl) (by kernel_rfl) (by kernel_rfl) (fun _ _ _ h => h) rfl (by rfl) ?_ (by assumption) ?_
                        rotate_left
                        · (intro w hSw; (try dsimp only at hSw); go_simp; (try with_reducible rfl))
                        try simp only [Act.put, List.setIfInBounds_toArray, List.set_cons_zero, List.set_cons_succ]
                        refine take_w (i := 33) (d := some 244) (v := ?_) rfl (by kernel_rfl) (by kernel_rfl) (by kernel_rfl) (fun _ _ _ h => h) rfl (by rfl) ?_ (by assumption) ?_
                        rotate_left
                        · (intro w hSw; (try dsimp only at hSw); go_simp; (try with_reducible rfl))
                        try simp only [Act.put, List.setIfInBounds_toArray, List.set_cons_zero, List.set_cons_succ]
                        refine take_w (i := 34) (d := some 245) (v := ?_) rfl (by kernel_rfl) (by kernel_rfl) (by kernel_rfl) (fun _ _ _ h => h) rfl (by rfl) ?_ (by assumption) ?_
                        rotate_left
                        · (intro w hSw; (try dsimp only at hSw); go_simp; (try with_reducible rfl))
                        try simp only [Act.put, List.setIfInBounds_toArray, List.set_cons_zero, List.set_cons_succ]
                        refine take_w (i := 35) (d := some 2) (v := ?_) rfl (by kernel_rfl) (by kernel_rfl) (by kernel_rfl) (fun _ _ _ h => h) rfl (by rfl) ?_ (by assumption) ?_
                        rotate_left
                        · (intro w hSw; (try dsimp only at hSw); go_simp; (try with_reducible rfl))
                        try simp only [Act.put, List.setIfInBounds_toArray, List.set_cons_zero, List.set_cons_succ]
                        refine wpAnyH_done (by kernel_rfl) ?_ _
                        go_wp2_with fail
                        go_ret
                        exact ⟨by first | rfl | simp, HQw4.out.trans HQr2.out.drew⟩
              · have e2 : ((f : Int) != (g : Int)) = true := by rw [bne_iff_ne]; exact fun h => HNpq.out (by omega)
                have CIx := Lib.hid CFa2.out
                go_upto_region 19 with (first
                  | (go_at_call 14; (with_reducible refine (CFa2.out w7 HQ7.out).mono ?_); rintro e w8 ⟨rfl, q8⟩; have HQ8 := Lib.hid (HQ7.out.trans q8); clear q8; clear s0 s1 s2 s3 s4 s5 s6 s7 m0 m1 m2 m3 m4 m5; obtain ⟨s0, s1, s2, s3, s4, s5, s6, s7, m0, m1, m2, m3, m4, m5⟩ := ALL4.out w8 HQ8.out)
                  | (go_at_call 14; (with_reducible refine (CFb2.out w8 HQ8.out).mono ?_); rintro e w9 ⟨rfl, q9⟩; have HQ9 := Lib.hid (HQ8.out.trans q9); clear q9; clear s0 s1 s2 s3 s4 s5 s6 s7 m0 m1 m2 m3 m4 m5; obtain ⟨s0, s1, s2, s3, s4, s5, s6, s7, m0, m1, m2, m3, m4, m5⟩ := ALL4.out w9 HQ9.out)
                  | fail)
                have hpq1 : (g : Int) + (f : Int) - (g : Int) = (f : Int) := by omega
                have hpq2 : (g : Int) + (f : Int) - (f : Int) = (g : Int) := by omega
                go_wp2_with fail
                clear s0 s1 s2 s3 s4 s5 s6 s7 m0 m1 m2 m3 m4 m5 CFa2 CFb2 CIx
                go_loopw [15] (fun i wr => ∃ v : Nat, v ≤ c.V.length ∧ i = .int .i64 v ∧ Hid (Q u4 wr)) (fun i _ => c.V.length - (intOf i).toNat)
                case atStart => exact ⟨0, Nat.zero_le _, rfl, HQ9⟩
                case round =>
                  obtain ⟨v, hvl, rfl, HQr⟩ := hrel
                  obtain ⟨s0, s1, s2, s3, s4, s5, s6, s7, m0, m1, m2, m3, m4, m5⟩ := ALL4.out wr HQr.out
                  by_cases hlt : v < c.V.length
                  · have d1 : decide ((v : Int) < (c.V.length : Int)) = true := decide_eq_true (by omega)
                    have d2 : decide (v < c.V.length) = true := decide_eq_true hlt
                    have hvP : v < P.length := by rw [HpT.out.1]; exact hlt
                    have hvT : v < T.length := by rw [HpT.out.2]; exact hlt
                    have j1 : (v : Int) < (P.length : Int) := by omega
                    have j2 : (v : Int) < (T.length : Int) := by omega
                    have j0 : (0 : Int) ≤ (v : Int) := Int.natCast_nonneg _
                    have hV1 : c.V.length ≤ 1000 := HF.out.2.1.1
                    obtain ⟨ra, rc, hra⟩ := HRP.out v hvP
                    obtain ⟨sa, sc, hsa⟩ := HRT.out v hvT
                    obtain ⟨ra4, rc4, hra4⟩ := HRP4.out v hvP
                    obtain ⟨sa4, sc4, hsa4⟩ := HRT4.out v hvT
                    have ALV : Hid (∀ U', Q u4 U' → U'.cell? ⟨V.heap.size, 4, none⟩ = some (.slice (some pad) P.length kp) ∧ U'.cell? ⟨V.heap.size, 5, none⟩ = some (.slice (some tad) T.length kt) ∧ U'.cell? ⟨Bm, 4, none⟩ = some (.slice (some pad4) P.length lp4) ∧ U'.cell? ⟨Bm, 5, none⟩ = some (.slice (some tad4) T.length lt4) ∧ U'.cell? (pad.add v) = some (.slice ra (rowG P v).length rc) ∧ U'.cell? (tad.add v) = some (.slice sa (rowG T v).length sc) ∧ U'.cell? (pad4.add v) = some (.slice ra4 (rowG P2 v).length rc4) ∧ U'.cell? (tad4.add v) = some (.slice sa4 (rowG T2 v).length sc4)) := fun U' q => by
                      obtain ⟨s0, s1, s2, s3, s4, s5, s6, s7, m0, m1, m2, m3, m4, m5⟩ := ALL4.out U' q
                      exact ⟨s6, s7, m4, m5, (hra U' q).1, (hsa U' q).1, (hra4 U' q).1, (hsa4 U' q).1⟩
                    go_upto_region 23 with fail
                    clear s0 s1 s2 s3 s4 s5 s6 s7 m0 m1 m2 m3 m4 m5 d1 d2
                    by_cases hvg : v = g
                    · have e5 : ((v : Int) != (g : Int)) = false := by rw [hvg]; simp
                      clear hvg hra hsa hra4 hsa4
                      refine wp_region_held_drew (S := fun U' => U'.cell? ⟨V.heap.size, 4, none⟩ = some (.slice (some pad) P.length kp) ∧ U'.cell? ⟨V.heap.size, 5, none⟩ = some (.slice (some tad) T.length kt) ∧ U'.cell? ⟨Bm, 4, none⟩ = some (.slice (some pad4) P.length lp4) ∧ U'.cell? ⟨Bm, 5, none⟩ = some (.slice (some tad4) T.length lt4) ∧ U'.cell? (pad.add v) = some (.slice ra (rowG P v).length rc) ∧ U'.cell? (tad.add v) = some (.slice sa (rowG T v).length sc) ∧ U'.cell? (pad4.add v) = some (.slice ra4 (rowG P2 v).length rc4) ∧ U'.cell? (tad4.add v) = some (.slice sa4 (rowG T2 v).length sc4)) (by kernel_rfl) ?_ (fun hHeld => ?_)
                      · exact ALV.out _ (HQr.out.trans (Q.refl wr).drew)
                      refine take_w (i := 0) (d := some 155) (v := ?_) rfl (by kernel_rfl) (by kernel_rfl) (by kernel_rfl) (fun _ _ _ h => h) rfl (by rfl) ?_ (by assumption) ?_
                      rotate_left
                      · (intro w hSw; (try dsimp only at hSw); go_simp; (try with_reducible rfl))
                      try simp only [Act.put, List.setIfInBounds_toArray, List.set_cons_zero, List.set_cons_succ]
                      refine take_w (i := 1) (d := some 156) (v := ?_) rfl (by kernel_rfl) (by kernel_rfl) (by kernel_rfl) (fun _ _ _ h => h) rfl (by rfl) ?_ (by assumption) ?_
                      rotate_left
                      · (intro w hSw; (try dsimp only at hSw); go_simp; (try with_reducible rfl))
                      try simp only [Act.put, List.setIfInBounds_toArray, List.set_cons_zero, List.set_cons_succ]
                      refine take_w (i := 2) (d := some 157) (v := ?_) rfl (by kernel_rfl) (by kernel_rfl) (by kernel_rfl) (fun _ _ _ h => h) rfl (by rfl) ?_ (by assumption) ?_
                      rotate_left
                      · (intro w hSw; (try dsimp only at hSw); go_simp; (try with_reducible rfl))
                      try simp only [Act.put, List.setIfInBounds_toArray, List.set_cons_zero, List.set_cons_succ]
                      refine take_w (i := 3) (d := some 158) (v := ?_) rfl (by kernel_rfl) (by kernel_rfl) (by kernel_rfl) (fun _ _ _ h => h) rfl (by rfl) ?_ (by assumption) ?_
                      rotate_left
                      · (intro w hSw; (try dsimp only at hSw); go_simp; (try with_reducible rfl))
                      try simp only [Act.put, List.setIfInBounds_toArray, List.set_cons_zero, List.set_cons_succ]
                      refine take_u (i := 4) (d := some 159) rfl (by kernel_rfl) (by kernel_rfl) (by kernel_rfl) (fun _ _ _ h => h) rfl (by rfl) (by assumption) ?_
                      try simp only [Act.put, List.setIfInBounds_toArray, List.set_cons_zero, List.set_cons_succ]
                      refine take_u (i := 5) (d := some 160) rfl (by kernel_rfl) (by kernel_rfl) (by kernel_rfl) (fun _ _ _ h => h) rfl (by rfl) (by assumption) ?_
                      try simp only [Act.put, List.setIfInBounds_toArray, List.set_cons_zero, List.set_cons_succ]
                      refine take_u (i := 6) (d := some 161) rfl (by kernel_rfl) (by kernel_rfl) (by kernel_rfl) (fun _ _ _ h => h) rfl (by rfl) (by assumption) ?_
                      try simp only [Act.put, List.setIfInBounds_toArray, List.set_cons_zero, List.set_cons_succ]
                      refine take_u (i := 7) (d := some 162) rfl (by kernel_rfl) (by kernel_rfl) (by kernel_rfl) (fun _ _ _ h => h) rfl (by rfl) (by assumption) ?_
                      try simp only [Act.put, List.setIfInBounds_toArray, List.set_cons_zero, List.set_cons_succ]
                      refine take_u (i := 8) (d := some 163) rfl (by kernel_rfl) (by kernel_rfl) (by kernel_rfl) (fun _ _ _ h => h) rfl (by rfl) (by assumption) ?_
                      try simp only [Act.put, List.setIfInBounds_toArray, List.set_cons_zero, List.set_cons_succ]
                      refine take_u (i := 9) (d := some 164) rfl (by kernel_rfl) (by kernel_rfl) (by kernel_rfl) (fun _ _ _ h => h) rfl (by rfl) (by assumption) ?_
                      try simp only [Act.put, List.setIfInBounds_toArray, List.set_cons_zero, List.set_cons_succ]
                      refine take_u (i := 10) (d := some 165) rfl (by kernel_rfl) (by kernel_rfl) (by kernel_rfl) (fun _ _ _ h => h) rfl (by rfl) (by assumption) ?_
                      try simp only [Act.put, List.setIfInBounds_toArray, List.set_cons_zero, List.set_cons_succ]
                      refine take_u (i := 11) (d := some 166) rfl (by kernel_rfl) (by kernel_rfl) (by kernel_rfl) (fun _ _ _ h => h) rfl (by rfl) (by assumption) ?_
                      try simp only [Act.put, List.setIfInBounds_toArray, List.set_cons_zero, List.set_cons_succ]
                      refine take_u (i := 12) (d := some 167) rfl (by kernel_rfl) (by kernel_rfl) (by kernel_rfl) (fun _ _ _ h => h) rfl (by rfl) (by assumption) ?_
                      try simp only [Act.put, List.setIfInBounds_toArray, List.set_cons_zero, List.set_cons_succ]
                      refine take_u (i := 13) (d := some 168) rfl (by kernel_rfl) (by kernel_rfl) (by kernel_rfl) (fun _ _ _ h => h) rfl (by rfl) (by assumption) ?_
                      try simp only [Act.put, List.setIfInBounds_toArray, List.set_cons_zero, List.set_cons_succ]
                      refine take_u (i := 14) (d := some 169) rfl (by kernel_rfl) (by kernel_rfl) (by kernel_rfl) (fun _ _ _ h => h) rfl (by rfl) (by assumption) ?_
                      try simp only [Act.put, List.setIfInBounds_toArray, List.set_cons_zero, List.set_cons_succ]
                      refine take_u (i := 15) (d := some 170) rfl (by kernel_rfl) (by kernel_rfl) (by kernel_rfl) (fun _ _ _ h => h) rfl (by rfl) (by assumption) ?_
                      try simp only [Act.put, List.setIfInBounds_toArray, List.set_cons_zero, List.set_cons_succ]
                      refine take_u (i := 16) (d := some 171) rfl (by kernel_rfl) (by kernel_rfl) (by kernel_rfl) (fun _ _ _ h => h) rfl (by rfl) (by assumption) ?_
                      try simp only [Act.put, List.setIfInBounds_toArray, List.set_cons_zero, List.set_cons_succ]
                      refine take_u (i := 17) (d := some 172) rfl (by kernel_rfl) (by kernel_rfl) (by kernel_rfl) (fun _ _ _ h => h) rfl (by rfl) (by assumption) ?_
                      try simp only [Act.put, List.setIfInBounds_toArray, List.set_cons_zero, List.set_cons_succ]
                      refine take_u (i := 18) (d := some 173) rfl (by kernel_rfl) (by kernel_rfl) (by kernel_rfl) (fun _ _ _ h => h) rfl (by rfl) (by assumption) ?_
                      try simp only [Act.put, List.setIfInBounds_toArray, List.set_cons_zero, List.set_cons_succ]
                      refine take_u (i := 19) (d := some 174) rfl (by kernel_rfl) (by kernel_rfl) (by kernel_rfl) (fun _ _ _ h => h) rfl (by rfl) (by assumption) ?_
                      try simp only [Act.put, List.setIfInBounds_toArray, List.set_cons_zero, List.set_cons_succ]
                      refine take_u (i := 20) (d := some 175) rfl (by kernel_rfl) (by kernel_rfl) (by kernel_rfl) (fun _ _ _ h => h) rfl (by rfl) (by assumption) ?_
                      try simp only [Act.put, List.setIfInBounds_toArray, List.set_cons_zero, List.set_cons_succ]
                      refine take_u (i := 21) (d := some 176) rfl (by kernel_rfl) (by kernel_rfl) (by kernel_rfl) (fun _ _ _ h => h) rfl (by rfl) (by assumption) ?_
                      try simp only [Act.put, List.setIfInBounds_toArray, List.set_cons_zero, List.set_cons_succ]
                      refine take_u (i := 22) (d := some 177) rfl (by kernel_rfl) (by kernel_rfl) (by kernel_rfl) (fun _ _ _ h => h) rfl (by rfl) (by assumption) ?_
                      try simp only [Act.put, List.setIfInBounds_toArray, List.set_cons_zero, List.set_cons_succ]
                      refine take_u (i := 23) (d := some 178) rfl (by kernel_rfl) (by kernel_rfl) (by kernel_rfl) (fun _ _ _ h => h) rfl (by rfl) (by assumption) ?_
                      try simp only [Act.put, List.setIfInBounds_toArray, List.set_cons_zero, List.set_cons_succ]
                      refine take_u (i := 24) (d := some 179) rfl (by kernel_rfl) (by kernel_rfl) (by kernel_rfl) (fun _ _ _ h => h) rfl (by rfl) (by assumption) ?_
                      try simp only [Act.put, List.setIfInBounds_toArray, List.set_cons_zero, List.set_cons_succ]
                      refine take_u (i := 25) (d := some 180) rfl (by kernel_rfl) (by kernel_rfl) (by kernel_rfl) (fun _ _ _ h => h) rfl (by rfl) (by assumption) ?_
                      try simp only [Act.put, List.setIfInBounds_toArray, List.set_cons_zero, List.set_cons_succ]
                      refine take_u (i := 26) (d := some 181) rfl (by kernel_rfl) (by kernel_rfl) (by kernel_rfl) (fun _ _ _ h => h) rfl (by rfl) (by assumption) ?_
                      try simp only [Act.put, List.setIfInBounds_toArray, List.set_cons_zero, List.set_cons_succ]
                      refine take_u (i := 27) (d := some 182) rfl (by kernel_rfl) (by kernel_rfl) (by kernel_rfl) (fun _ _ _ h => h) rfl (by rfl) (by assumption) ?_
                      try simp only [Act.put, List.setIfInBounds_toArray, List.set_cons_zero, List.set_cons_succ]
                      refine take_u (i := 28) (d := some 183) rfl (by kernel_rfl) (by kernel_rfl) (by kernel_rfl) (fun _ _ _ h => h) rfl (by rfl) (by assumption) ?_
                      try simp only [Act.put, List.setIfInBounds_toArray, List.set_cons_zero, List.set_cons_succ]
                      refine take_u (i := 29) (d := some 184) rfl (by kernel_rfl) (by kernel_rfl) (by kernel_rfl) (fun _ _ _ h => h) rfl (by rfl) (by assumption) ?_
                      try simp only [Act.put, List.setIfInBounds_toArray, List.set_cons_zero, List.set_cons_succ]
                      refine take_w (i := 30) (d := some 185) (v := ?_) rfl (by kernel_rfl) (by kernel_rfl) (by kernel_rfl) (fun _ _ _ h => h) rfl (by rfl) ?_ (by assumption) ?_
                      rotate_left
                      · (intro w hSw; (try dsimp only at hSw); go_simp; (try with_reducible rfl))
                      try simp only [Act.put, List.setIfInBounds_toArray, List.set_cons_zero, List.set_cons_succ]
                      refine wpAnyH_done (by kernel_rfl) ?_ _
                      go_wp2_with fail
                      go_roundw
                      case rel => exact ⟨v + 1, by omega, by go_num, Lib.hid HQr.out.drew⟩
                      case measure => simp [intOf]; omega
                    · have e5 : ((v : Int) != (g : Int)) = true := by rw [bne_iff_ne]; omega
                      have CI1 : Hid (∀ U, Q u4 U → Calls Tryz.prog 16 #[.slice ra (rowG P v).length rc, .slice ra4 (rowG P2 v).length rc4] U fun e w' => e = .returned (.bool true) ∧ Q U w') := fun U q => by
                        refine (Hs.refInts_any ra ra4 _ rc _ rc4 (rowG P v) (rowG P2 v) U rfl rfl (hra U q).2 (hra4 U q).2 (by have := HlP.out v; unfold maxLen; omega)).mono ?_
                        rintro e w' ⟨rfl, dd, rfl⟩
                        exact ⟨by rw [HsameP.out v hvg, (Hs.eqL_iff _ _).2 rfl], (Q.refl _).drewN dd⟩
                      have CI2 : Hid (∀ U, Q u4 U → Calls Tryz.prog 16 #[.slice sa (rowG T v).length sc, .slice sa4 (rowG T2 v).length sc4] U fun e w' => e = .returned (.bool true) ∧ Q U w') := fun U q => by
                        refine (Hs.refInts_any sa sa4 _ sc _ sc4 (rowG T v) (rowG T2 v) U rfl rfl (hsa U q).2 (hsa4 U q).2 (by have := HlT.out v; unfold maxLen; omega)).mono ?_
                        rintro e w' ⟨rfl, dd, rfl⟩
                        exact ⟨by rw [HsameT.out v hvg, (Hs.eqL_iff _ _).2 rfl], (Q.refl _).drewN dd⟩
                      clear hvg hra hsa hra4 hsa4
                      refine wp_region_held_drew (S := fun U' => U'.cell? ⟨V.heap.size, 4, none⟩ = some (.slice (some pad) P.length kp) ∧ U'.cell? ⟨V.heap.size, 5, none⟩ = some (.slice (some tad) T.length kt) ∧ U'.cell? ⟨Bm, 4, none⟩ = some (.slice (some pad4) P.length lp4) ∧ U'.cell? ⟨Bm, 5, none⟩ = some (.slice (some tad4) T.length lt4) ∧ U'.cell? (pad.add v) = some (.slice ra (rowG P v).length rc) ∧ U'.cell? (tad.add v) = some (.slice sa (rowG T v).length sc) ∧ U'.cell? (pad4.add v) = some (.slice ra4 (rowG P2 v).length rc4) ∧ U'.cell? (tad4.add v) = some (.slice sa4 (rowG T2 v).length sc4)) (by kernel_rfl) ?_ (fun hHeld => ?_)
                      · exact ALV.out _ (HQr.out.trans (Q.refl wr).drew)
                      refine take_w (i := 0) (d := some 155) (v := ?_) rfl (by kernel_rfl) (by kernel_rfl) (by kernel_rfl) (fun _ _ _ h => h) rfl (by rfl) ?_ (by assumption) ?_
                      rotate_left
                      · (intro w hSw; (try dsimp only at hSw); go_simp; (try with_reducible rfl))
                      try simp only [Act.put, List.setIfInBounds_toArray, List.set_cons_zero, List.set_cons_succ]
                      refine take_w (i := 1) (d := some 156) (v := ?_) rfl (by kernel_rfl) (by kernel_rfl) (by kernel_rfl) (fun _ _ _ h => h) rfl (by rfl) ?_ (by assumption) ?_
                      rotate_left
                      · (intro w hSw; (try dsimp only at hSw); go_simp; (try with_reducible rfl))
                      try simp only [Act.put, List.setIfInBounds_toArray, List.set_cons_zero, List.set_cons_succ]
                      refine take_w (i := 2) (d := some 157) (v := ?_) rfl (by kernel_rfl) (by kernel_rfl) (by kernel_rfl) (fun _ _ _ h => h) rfl (by rfl) ?_ (by assumption) ?_
                      rotate_left
                      · (intro w hSw; (try dsimp only at hSw); go_simp; (try with_reducible rfl))
                      try simp only [Act.put, List.setIfInBounds_toArray, List.set_cons_zero, List.set_cons_succ]
                      refine take_w (i := 3) (d := some 158) (v := ?_) rfl (by kernel_rfl) (by kernel_rfl) (by kernel_rfl) (fun _ _ _ h => h) rfl (by rfl) ?_ (by assumption) ?_
                      rotate_left
                      · (intro w hSw; (try dsimp only at hSw); go_simp; (try with_reducible rfl))
                      try simp only [Act.put, List.setIfInBounds_toArray, List.set_cons_zero, List.set_cons_succ]
                      refine take_w (i := 4) (d := some 159) (v := ?_) rfl (by kernel_rfl) (by kernel_rfl) (by kernel_rfl) (fun _ _ _ h => h) rfl (by rfl) ?_ (by assumption) ?_
                      rotate_left
                      · (intro w hSw; (try dsimp only at hSw); go_simp; (try with_reducible rfl))
                      try simp only [Act.put, List.setIfInBounds_toArray, List.set_cons_zero, List.set_cons_succ]
                      refine take_w (i := 5) (d := some 160) (v := ?_) rfl (by kernel_rfl) (by kernel_rfl) (by kernel_rfl) (fun _ _ _ h => h) rfl (by rfl) ?_ (by assumption) ?_
                      rotate_left
                      · (intro w hSw; (try dsimp only at hSw); go_simp; (try with_reducible rfl))
                      try simp only [Act.put, List.setIfInBounds_toArray, List.set_cons_zero, List.set_cons_succ]
                      refine take_w (i := 6) (d := some 161) (v := ?_) rfl (by kernel_rfl) (by kernel_rfl) (by kernel_rfl) (fun _ _ _ h => h) rfl (by rfl) ?_ (by assumption) ?_
                      rotate_left
                      · (intro w hSw; (try dsimp only at hSw); go_simp; (try with_reducible rfl))
                      try simp only [Act.put, List.setIfInBounds_toArray, List.set_cons_zero, List.set_cons_succ]
                      refine take_w (i := 7) (d := some 162) (v := ?_) rfl (by kernel_rfl) (by kernel_rfl) (by kernel_rfl) (fun _ _ _ h => h) rfl (by rfl) ?_ (by assumption) ?_
                      rotate_left
                      · (intro w hSw; (try dsimp only at hSw); go_simp; (try with_reducible rfl))
                      try simp only [Act.put, List.setIfInBounds_toArray, List.set_cons_zero, List.set_cons_succ]
                      refine take_w (i := 8) (d := some 163) (v := ?_) rfl (by kernel_rfl) (by kernel_rfl) (by kernel_rfl) (fun _ _ _ h => h) rfl (by rfl) ?_ (by assumption) ?_
                      rotate_left
                      · (intro w hSw; (try dsimp only at hSw); go_simp; (try with_reducible rfl))
                      try simp only [Act.put, List.setIfInBounds_toArray, List.set_cons_zero, List.set_cons_succ]
                      refine take_w (i := 9) (d := some 164) (v := ?_) rfl (by kernel_rfl) (by kernel_rfl) (by kernel_rfl) (fun _ _ _ h => h) rfl (by rfl) ?_ (by assumption) ?_
                      rotate_left
                      · (intro w hSw; (try dsimp only at hSw); go_simp; (try with_reducible rfl))
                      try simp only [Act.put, List.setIfInBounds_toArray, List.set_cons_zero, List.set_cons_succ]
                      refine take_w (i := 10) (d := some 165) (v := ?_) rfl (by kernel_rfl) (by kernel_rfl) (by kernel_rfl) (fun _ _ _ h => h) rfl (by rfl) ?_ (by assumption) ?_
                      rotate_left
                      · (intro w hSw; (try dsimp only at hSw); go_simp; (try with_reducible rfl))
                      try simp only [Act.put, List.setIfInBounds_toArray, List.set_cons_zero, List.set_cons_succ]
                      refine take_w (i := 11) (d := some 166) (v := ?_) rfl (by kernel_rfl) (by kernel_rfl) (by kernel_rfl) (fun _ _ _ h => h) rfl (by rfl) ?_ (by assumption) ?_
                      rotate_left
                      · (intro w hSw; (try dsimp only at hSw); go_simp; (try with_reducible rfl))
                      try simp only [Act.put, List.setIfInBounds_toArray, List.set_cons_zero, List.set_cons_succ]
                      refine take_w (i := 12) (d := some 167) (v := ?_) rfl (by kernel_rfl) (by kernel_rfl) (by kernel_rfl) (fun _ _ _ h => h) rfl (by rfl) ?_ (by assumption) ?_
                      rotate_left
                      · (intro w hSw; (try dsimp only at hSw); go_simp; (try with_reducible rfl))
                      try simp only [Act.put, List.setIfInBounds_toArray, List.set_cons_zero, List.set_cons_succ]
                      refine take_w (i := 13) (d := some 168) (v := ?_) rfl (by kernel_rfl) (by kernel_rfl) (by kernel_rfl) (fun _ _ _ h => h) rfl (by rfl) ?_ (by assumption) ?_
                      rotate_left
                      · (intro w hSw; (try dsimp only at hSw); go_simp; (try with_reducible rfl))
                      try simp only [Act.put, List.setIfInBounds_toArray, List.set_cons_zero, List.set_cons_succ]
                      refine call_w (i := 14) rfl (by kernel_rfl) (by rfl) (fun K hK => ?_)
                      go_simp
                      go_at_call 16
                      refine (CI1.out wr.drew (HQr.out.trans (Q.refl wr).drew)).mono ?_
                      rintro e w20 ⟨rfl, q20⟩
                      have HQ20 := Lib.hid ((HQr.out.trans (Q.refl wr).drew).trans q20)
                      clear q20
                      refine hK.out _ _ ?_ (fun hHeld => ?_)
                      · exact ALV.out _ HQ20.out
                      clear hK K
                      try simp only [Act.put, List.setIfInBounds_toArray, List.set_cons_zero, List.set_cons_succ]
                      refine take_w (i := 15) (d := some 170) (v := ?_) rfl (by kernel_rfl) (by kernel_rfl) (by kernel_rfl) (fun _ _ _ h => h) rfl (by rfl) ?_ (by assumption) ?_
                      rotate_left
                      · (intro w hSw; (try dsimp only at hSw); go_simp; (try with_reducible rfl))
                      try simp only [Act.put, List.setIfInBounds_toArray, List.set_cons_zero, List.set_cons_succ]
                      refine take_w (i := 16) (d := some 171) (v := ?_) rfl (by kernel_rfl) (by kernel_rfl) (by kernel_rfl) (fun _ _ _ h => h) rfl (by rfl) ?_ (by assumption) ?_
                      rotate_left
                      · (intro w hSw; (try dsimp only at hSw); go_simp; (try with_reducible rfl))
                      try simp only [Act.put, List.setIfInBounds_toArray, List.set_cons_zero, List.set_cons_succ]
                      refine take_w (i := 17) (d := some 172) (v := ?_) rfl (by kernel_rfl) (by kernel_rfl) (by kernel_rfl) (fun _ _ _ h => h) rfl (by rfl) ?_ (by assumption) ?_
                      rotate_left
                      · (intro w hSw; (try dsimp only at hSw); go_simp; (try with_reducible rfl))
                      try simp only [Act.put, List.setIfInBounds_toArray, List.set_cons_zero, List.set_cons_succ]
                      refine take_w (i := 18) (d := some 173) (v := ?_) rfl (by kernel_rfl) (by kernel_rfl) (by kernel_rfl) (fun _ _ _ h => h) rfl (by rfl) ?_ (by assumption) ?_
                      rotate_left
                      · (intro w hSw; (try dsimp only at hSw); go_simp; (try with_reducible rfl))
                      try simp only [Act.put, List.setIfInBounds_toArray, List.set_cons_zero, List.set_cons_succ]
                      refine take_w (i := 19) (d := some 174) (v := ?_) rfl (by kernel_rfl) (by kernel_rfl) (by kernel_rfl) (fun _ _ _ h => h) rfl (by rfl) ?_ (by assumption) ?_
                      rotate_left
                      · (intro w hSw; (try dsimp only at hSw); go_simp; (try with_reducible rfl))
                      try simp only [Act.put, List.setIfInBounds_toArray, List.set_cons_zero, List.set_cons_succ]
                      refine take_w (i := 20) (d := some 175) (v := ?_) rfl (by kernel_rfl) (by kernel_rfl) (by kernel_rfl) (fun _ _ _ h => h) rfl (by rfl) ?_ (by assumption) ?_
                      rotate_left
                      · (intro w hSw; (try dsimp only at hSw); go_simp; (try with_reducible rfl))
                      try simp only [Act.put, List.setIfInBounds_toArray, List.set_cons_zero, List.set_cons_succ]
                      refine take_w (i := 21) (d := some 176) (v := ?_) rfl (by kernel_rfl) (by kernel_rfl) (by kernel_rfl) (fun _ _ _ h => h) rfl (by rfl) ?_ (by assumption) ?_
                      rotate_left
                      · (intro w hSw; (try dsimp only at hSw); go_simp; (try with_reducible rfl))
                      try simp only [Act.put, List.setIfInBounds_toArray, List.set_cons_zero, List.set_cons_succ]
                      refine take_w (i := 22) (d := some 177) (v := ?_) rfl (by kernel_rfl) (by kernel_rfl) (by kernel_rfl) (fun _ _ _ h => h) rfl (by rfl) ?_ (by assumption) ?_
                      rotate_left
                      · (intro w hSw; (try dsimp only at hSw); go_simp; (try with_reducible rfl))
                      try simp only [Act.put, List.setIfInBounds_toArray, List.set_cons_zero, List.set_cons_succ]
                      refine take_w (i := 23) (d := some 178) (v := ?_) rfl (by kernel_rfl) (by kernel_rfl) (by kernel_rfl) (fun _ _ _ h => h) rfl (by rfl) ?_ (by assumption) ?_
                      rotate_left
                      · (intro w hSw; (try dsimp only at hSw); go_simp; (try with_reducible rfl))
                      try simp only [Act.put, List.setIfInBounds_toArray, List.set_cons_zero, List.set_cons_succ]
                      refine take_w (i := 24) (d := some 179) (v := ?_) rfl (by kernel_rfl) (by kernel_rfl) (by kernel_rfl) (fun _ _ _ h => h) rfl (by rfl) ?_ (by assumption) ?_
                      rotate_left
                      · (intro w hSw; (try dsimp only at hSw); go_simp; (try with_reducible rfl))
                      try simp only [Act.put, List.setIfInBounds_toArray, List.set_cons_zero, List.set_cons_succ]
                      refine take_w (i := 25) (d := some 180) (v := ?_) rfl (by kernel_rfl) (by kernel_rfl) (by kernel_rfl) (fun _ _ _ h => h) rfl (by rfl) ?_ (by assumption) ?_
                      rotate_left
                      · (intro w hSw; (try dsimp only at hSw); go_simp; (try with_reducible rfl))
                      try simp only [Act.put, List.setIfInBounds_toArray, List.set_cons_zero, List.set_cons_succ]
                      refine take_w (i := 26) (d := some 181) (v := ?_) rfl (by kernel_rfl) (by kernel_rfl) (by kernel_rfl) (fun _ _ _ h => h) rfl (by rfl) ?_ (by assumption) ?_
                      rotate_left
                      · (intro w hSw; (try dsimp only at hSw); go_simp; (try with_reducible rfl))
                      try simp only [Act.put, List.setIfInBounds_toArray, List.set_cons_zero, List.set_cons_succ]
                      refine call_w (i := 27) rfl (by kernel_rfl) (by rfl) (fun K hK => ?_)
                      go_simp
                      go_at_call 16
                      refine (CI2.out w20 HQ20.out).mono ?_
                      rintro e w21 ⟨rfl, q21⟩
                      have HQ21 := Lib.hid (HQ20.out.trans q21)
                      clear q21
                      refine hK.out _ _ ?_ (fun hHeld => ?_)
                      · exact ALV.out _ HQ21.out
                      clear hK K
                      try simp only [Act.put, List.setIfInBounds_toArray, List.set_cons_zero, List.set_cons_succ]
                      refine take_w (i := 28) (d := some 183) (v := ?_) rfl (by kernel_rfl) (by kernel_rfl) (by kernel_rfl) (fun _ _ _ h => h) rfl (by rfl) ?_ (by assumption) ?_
                      rotate_left
                      · (intro w hSw; (try dsimp only at hSw); go_simp; (try with_reducible rfl))
                      try simp only [Act.put, List.setIfInBounds_toArray, List.set_cons_zero, List.set_cons_succ]
                      refine take_w (i := 29) (d := some 184) (v := ?_) rfl (by kernel_rfl) (by kernel_rfl) (by kernel_rfl) (fun _ _ _ h => h) rfl (by rfl) ?_ (by assumption) ?_
                      rotate_left
                      · (intro w hSw; (try dsimp only at hSw); go_simp; (try with_reducible rfl))
                      try simp only [Act.put, List.setIfInBounds_toArray, List.set_cons_zero, List.set_cons_succ]
                      refine take_w (i := 30) (d := some 185) (v := ?_) rfl (by kernel_rfl) (by kernel_rfl) (by kernel_rfl) (fun _ _ _ h => h) rfl (by rfl) ?_ (by assumption) ?_
                      rotate_left
                      · (intro w hSw; (try dsimp only at hSw); go_simp; (try with_reducible rfl))
                      try simp only [Act.put, List.setIfInBounds_toArray, List.set_cons_zero, List.set_cons_succ]
                      refine wpAnyH_done (by kernel_rfl) ?_ _
                      go_wp2_with fail
                      go_roundw
                      case rel => exact ⟨v + 1, by omega, by go_num, HQ21⟩
                      case measure => simp [intOf]; omega
                  · obtain rfl : v = c.V.length := by omega
                    have d1 : decide ((c.V.length : Int) < (c.V.length : Int)) = false := decide_eq_false (by omega)
                    have d2 : decide (c.V.length < c.V.length) = false := decide_eq_false (by omega)
                    go_upto_region 26 with (go_at_call 17; refine (CAt.out wr HQr.out).mono ?_; rintro e w10 ⟨rfl, q10⟩; have HQ10 := Lib.hid (HQr.out.trans q10); clear q10)
                    clear s0 s1 s2 s3 s4 s5 s6 s7 m0 m1 m2 m3 m4 m5 d1 d2 hvl hlt HQr CAt
                    obtain ⟨at_, hat⟩ : ∃ at_, at_ = atV ks (f : Int) := ⟨_, rfl⟩
                    rw [← hat] at HL2 ⊢
                    clear hat
                    go_wp2_with fail
                    go_loopw [17] (fun i wr => ∃ j : Nat, j ≤ l2.length ∧ i = .int .i64 j ∧ Hid (Q u4 wr)) (fun i _ => l2.length - (intOf i).toNat)
                    case atStart => exact ⟨0, Nat.zero_le _, rfl, HQ10⟩
                    case round =>
                      obtain ⟨j, hjl, rfl, HQr2⟩ := hrel
                      have hL1 : l2.length ≤ 2000 := HF2.out.2.2.2
                      by_cases hlt : j < l2.length
                      · have d1 : decide ((j : Int) < (l2.length : Int)) = true := decide_eq_true (by omega)
                        have d2 : decide (j < l2.length) = true := decide_eq_true hlt
                        have j1 : (j : Int) < (l2.length : Int) := by omega
                        have j0 : (0 : Int) ≤ (j : Int) := Int.natCast_nonneg _
                        have hz : l2[j].1 = at_ ∨ l2[j].2 = at_ := come_at2 HL2.out (List.getElem?_eq_getElem hlt)
                        obtain ⟨xad, hxa, hxb, x0, x1⟩ := St.pair_at (HX4'.out.q HQr2.out) hlt
                        subst hxa
                        obtain ⟨z, hz0⟩ : ∃ z, z = l2[j] := ⟨_, rfl⟩
                        rw [← hz0] at hz x0 x1
                        clear hz0 hxb
                        by_cases h1 : z.1 = at_
                        · have e6 : (z.1 != at_) = false := by rw [h1]; simp
                          clear hz h1
                          go_wp2_with fail
                          go_roundw
                          case rel => exact ⟨j + 1, by omega, by go_num, HQr2⟩
                          case measure => simp [intOf]; omega
                        · have e6 : (z.1 != at_) = true := by rw [bne_iff_ne]; exact h1
                          have e7 : (z.2 != at_) = false := by rw [hz.resolve_left h1]; simp
                          clear hz h1
                          go_wp2_with fail
                          go_roundw
                          case rel => exact ⟨j + 1, by omega, by go_num, HQr2⟩
                          case measure => simp [intOf]; omega
                      · obtain rfl : j = l2.length := by omega
                        have d1 : decide ((l2.length : Int) < (l2.length : Int)) = false := decide_eq_false (by omega)
                        have d2 : decide (l2.length < l2.length) = false := decide_eq_false (by omega)
                        have hvP : g < P.length := by rw [HpT.out.1]; exact Hgl.out
                        have hvT : g < T.length := by rw [HpT.out.2]; exact Hgl.out
                        have k1' : (g : Int) < (P.length : Int) := by omega
                        have k2' : (g : Int) < (T.length : Int) := by omega
                        obtain ⟨ra, rc, hra⟩ := HRP.out g hvP
                        obtain ⟨sa, sc, hsa⟩ := HRT.out g hvT
                        obtain ⟨ra4, rc4, hra4⟩ := HRP4.out g hvP
                        obtain ⟨sa4, sc4, hsa4⟩ := HRT4.out g hvT
                        have ALV : Hid (∀ U', Q u4 U' → U'.cell? ⟨V.heap.size, 4, none⟩ = some (.slice (some pad) P.length kp) ∧ U'.cell? ⟨V.heap.size, 5, none⟩ = some (.slice (some tad) T.length kt) ∧ U'.cell? ⟨Bm, 4, none⟩ = some (.slice (some pad4) P.length lp4) ∧ U'.cell? ⟨Bm, 5, none⟩ = some (.slice (some tad4) T.length lt4) ∧ U'.cell? (pad.add g) = some (.slice ra (rowG P g).length rc) ∧ U'.cell? (tad.add g) = some (.slice sa (rowG T g).length sc) ∧ U'.cell? (pad4.add g) = some (.slice ra4 (rowG P2 g).length rc4) ∧ U'.cell? (tad4.add g) = some (.slice sa4 (rowG T2 g).length sc4)) := fun U' q => by
                          obtain ⟨s0, s1, s2, s3, s4, s5, s6, s7, m0, m1, m2, m3, m4, m5⟩ := ALL4.out U' q
                          exact ⟨s6, s7, m4, m5, (hra U' q).1, (hsa U' q).1, (hra4 U' q).1, (hsa4 U' q).1⟩
                        rw [HnilP.out, HnilT.out] at ALV
                        have ALE : Hid (∀ U', Q u4 U' → U'.cell? ⟨V.heap.size, 4, none⟩ = some (.slice (some pad) P.length kp) ∧ U'.cell? ⟨V.heap.size, 5, none⟩ = some (.slice (some tad) T.length kt) ∧ U'.cell? ⟨Bm, 4, none⟩ = some (.slice (some pad4) P.length lp4) ∧ U'.cell? ⟨Bm, 5, none⟩ = some (.slice (some tad4) T.length lt4) ∧ U'.cell? (pad.add g) = some (.slice ra (rowG P g).length rc) ∧ U'.cell? (tad.add g) = some (.slice sa (rowG T g).length sc) ∧ U'.cell? (pad4.add g) = some (.slice ra4 0 rc4) ∧ U'.cell? (tad4.add g) = some (.slice sa4 0 sc4)) := ALV
                        have hlp : (rowG P g).length ≤ 1000 := HlP.out _
                        have hlt2 : (rowG T g).length ≤ 1000 := HlT.out _
                        have e8 : ((l2.length : Int) == ((rowG P g).length : Int) + ((rowG T g).length : Int)) = true := by
                          rw [HL2.out, come_len, beq_iff_eq]; omega
                        have hsum : l2.length = (rowG P g).length + (rowG T g).length := by rw [HL2.out, come_len]
                        have ew : IntKind.i64.wrap (((rowG P g).length : Int) + ((rowG T g).length : Int)) = ((rowG P g).length : Int) + ((rowG T g).length : Int) := IntWalk.i64_in _ (by omega)
                        have ew0 : IntKind.i64.wrap 0 = 0 := by decide
                        clear hsum
                        clear hra hsa hra4 hsa4 ALV
                        go_upto_region 31 with fail
                        clear d1 d2
                        refine wp_region_held_drew (S := fun U' => U'.cell? ⟨V.heap.size, 4, none⟩ = some (.slice (some pad) P.length kp) ∧ U'.cell? ⟨V.heap.size, 5, none⟩ = some (.slice (some tad) T.length kt) ∧ U'.cell? ⟨Bm, 4, none⟩ = some (.slice (some pad4) P.length lp4) ∧ U'.cell? ⟨Bm, 5, none⟩ = some (.slice (some tad4) T.length lt4) ∧ U'.cell? (pad.add g) = some (.slice ra (rowG P g).length rc) ∧ U'.cell? (tad.add g) = some (.slice sa (rowG T g).length sc) ∧ U'.cell? (pad4.add g) = some (.slice ra4 0 rc4) ∧ U'.cell? (tad4.add g) = some (.slice sa4 0 sc4)) (by kernel_rfl) ?_ (fun hHeld => ?_)
                        · exact ALE.out _ (HQr2.out.trans (Q.refl wr).drew)
                        refine take_w (i := 0) (d := some 211) (v := ?_) rfl (by kernel_rfl) (by kernel_rfl) (by kernel_rfl) (fun _ _ _ h => h) rfl (by rfl) ?_ (by assumption) ?_
                        rotate_left
                        · (intro w hSw; (try dsimp only at hSw); go_simp; (try with_reducible rfl))
                        try simp only [Act.put, List.setIfInBounds_toArray, List.set_cons_zero, List.set_cons_succ]
                        refine take_w (i := 1) (d := some 212) (v := ?_) rfl (by kernel_rfl) (by kernel_rfl) (by kernel_rfl) (fun _ _ _ h => h) rfl (by rfl) ?_ (by assumption) ?_
                        rotate_left
                        · (intro w hSw; (try dsimp only at hSw); go_simp; (try with_reducible rfl))
                        try simp only [Act.put, List.setIfInBounds_toArray, List.set_cons_zero, List.set_cons_succ]
                        refine take_w (i := 2) (d := some 213) (v := ?_) rfl (by kernel_rfl) (by kernel_rfl) (by kernel_rfl) (fun _ _ _ h => h) rfl (by rfl) ?_ (by assumption) ?_
                        rotate_left
                        · (intro w hSw; (try dsimp only at hSw); go_simp; (try with_reducible rfl))
                        try simp only [Act.put, List.setIfInBounds_toArray, List.set_cons_zero, List.set_cons_succ]
                        refine take_w (i := 3) (d := some 214) (v := ?_) rfl (by kernel_rfl) (by kernel_rfl) (by kernel_rfl) (fun _ _ _ h => h) rfl (by rfl) ?_ (by assumption) ?_
                        rotate_left
                        · (intro w hSw; (try dsimp only at hSw); go_simp; (try with_reducible rfl))
                        try simp only [Act.put, List.setIfInBounds_toArray, List.set_cons_zero, List.set_cons_succ]
                        refine take_w (i := 4) (d := some 215) (v := ?_) rfl (by kernel_rfl) (by kernel_rfl) (by kernel_rfl) (fun _ _ _ h => h) rfl (by rfl) ?_ (by assumption) ?_
                        rotate_left
                        · (intro w hSw; (try dsimp only at hSw); go_simp; (try with_reducible rfl))
                        try simp only [Act.put, List.setIfInBounds_toArray, List.set_cons_zero, List.set_cons_succ]
                        refine take_w (i := 5) (d := some 216) (v := ?_) rfl (by kernel_rfl) (by kernel_rfl) (by kernel_rfl) (fun _ _ _ h => h) rfl (by rfl) ?_ (by assumption) ?_
                        rotate_left
                        · (intro w hSw; (try dsimp only at hSw); go_simp; (try with_reducible rfl))
                        try simp only [Act.put, List.setIfInBounds_toArray, List.set_cons_zero, List.set_cons_succ]
                        refine take_w (i := 6) (d := some 217) (v := ?_) rfl (by kernel_rfl) (by kernel_rfl) (by kernel_rfl) (fun _ _ _ h => h) rfl (by rfl) ?_ (by assumption) ?_
                        rotate_left
                        · (intro w hSw; (try dsimp only at hSw); go_simp; (try with_reducible rfl))
                        try simp only [Act.put, List.setIfInBounds_toArray, List.set_cons_zero, List.set_cons_succ]
                        refine take_w (i := 7) (d := some 218) (v := ?_) rfl (by kernel_rfl) (by kernel_rfl) (by kernel_rfl) (fun _ _ _ h => h) rfl (by rfl) ?_ (by assumption) ?_
                        rotate_left
                        · (intro w hSw; (try dsimp only at hSw); go_simp; (try with_reducible rfl))
                        try simp only [Act.put, List.setIfInBounds_toArray, List.set_cons_zero, List.set_cons_succ]
                        refine take_w (i := 8) (d := some 219) (v := ?_) rfl (by kernel_rfl) (by kernel_rfl) (by kernel_rfl) (fun _ _ _ h => h) rfl (by rfl) ?_ (by assumption) ?_
                        rotate_left
                        · (intro w hSw; (try dsimp only at hSw); go_simp; (try with_reducible rfl))
                        try simp only [Act.put, List.setIfInBounds_toArray, List.set_cons_zero, List.set_cons_succ]
                        refine take_w (i := 9) (d := some 220) (v := ?_) rfl (by kernel_rfl) (by kernel_rfl) (by kernel_rfl) (fun _ _ _ h => h) rfl (by rfl) ?_ (by assumption) ?_
                        rotate_left
                        · (intro w hSw; (try dsimp only at hSw); go_simp; (try with_reducible rfl))
                        try simp only [Act.put, List.setIfInBounds_toArray, List.set_cons_zero, List.set_cons_succ]
                        refine take_w (i := 10) (d := some 221) (v := ?_) rfl (by kernel_rfl) (by kernel_rfl) (by kernel_rfl) (fun _ _ _ h => h) rfl (by rfl) ?_ (by assumption) ?_
                        rotate_left
                        · (intro w hSw; (try dsimp only at hSw); go_simp; (try with_reducible rfl))
                        try simp only [Act.put, List.setIfInBounds_toArray, List.set_cons_zero, List.set_cons_succ]
                        refine take_w (i := 11) (d := some 222) (v := ?_) rfl (by kernel_rfl) (by kernel_rfl) (by kernel_rfl) (fun _ _ _ h => h) rfl (by rfl) ?_ (by assumption) ?_
                        rotate_left
                        · (intro w hSw; (try dsimp only at hSw); go_simp; (try with_reducible rfl))
                        try simp only [Act.put, List.setIfInBounds_toArray, List.set_cons_zero, List.set_cons_succ]
                        refine take_w (i := 12) (d := some 223) (v := ?_) rfl (by kernel_rfl) (by kernel_rfl) (by kernel_rfl) (fun _ _ _ h => h) rfl (by rfl) ?_ (by assumption) ?_
                        rotate_left
                        · (intro w hSw; (try dsimp only at hSw); go_simp; (try with_reducible rfl))
                        try simp only [Act.put, List.setIfInBounds_toArray, List.set_cons_zero, List.set_cons_succ]
                        refine take_w (i := 13) (d := some 224) (v := ?_) rfl (by kernel_rfl) (by kernel_rfl) (by kernel_rfl) (fun _ _ _ h => h) rfl (by rfl) ?_ (by assumption) ?_
                        rotate_left
                        · (intro w hSw; (try dsimp only at hSw); go_simp; (try with_reducible rfl))
                        try simp only [Act.put, List.setIfInBounds_toArray, List.set_cons_zero, List.set_cons_succ]
                        refine take_w (i := 14) (d := some 225) (v := ?_) rfl (by kernel_rfl) (by kernel_rfl) (by kernel_rfl) (fun _ _ _ h => h) rfl (by rfl) ?_ (by assumption) ?_
                        rotate_left
                        · (intro w hSw; (try dsimp only at hSw); go_simp; (try with_reducible rfl))
                        try simp only [Act.put, List.setIfInBounds_toArray, List.set_cons_zero, List.set_cons_succ]
                        refine take_w (i := 15) (d := some 226) (v := ?_) rfl (by kernel_rfl) (by kernel_rfl) (by kernel_rfl) (fun _ _ _ h => h) rfl (by rfl) ?_ (by assumption) ?_
                        rotate_left
                        · (intro w hSw; (try dsimp only at hSw); go_simp; (try with_reducible rfl))
                        try simp only [Act.put, List.setIfInBounds_toArray, List.set_cons_zero, List.set_cons_succ]
                        refine take_w (i := 16) (d := some 227) (v := ?_) rfl (by kernel_rfl) (by kernel_rfl) (by kernel_rfl) (fun _ _ _ h => h) rfl (by rfl) ?_ (by assumption) ?_
                        rotate_left
                        · (intro w hSw; (try dsimp only at hSw); go_simp; (try with_reducible rfl))
                        try simp only [Act.put, List.setIfInBounds_toArray, List.set_cons_zero, List.set_cons_succ]
                        refine take_w (i := 17) (d := some 228) (v := ?_) rfl (by kernel_rfl) (by kernel_rfl) (by kernel_rfl) (fun _ _ _ h => h) rfl (by rfl) ?_ (by assumption) ?_
                        rotate_left
                        · (intro w hSw; (try dsimp only at hSw); go_simp; (try with_reducible rfl))
                        try simp only [Act.put, List.setIfInBounds_toArray, List.set_cons_zero, List.set_cons_succ]
                        refine take_w (i := 18) (d := some 229) (v := ?_) rfl (by kernel_rfl) (by kernel_rfl) (by kernel_rfl) (fun _ _ _ h => h) rfl (by rfl) ?_ (by assumption) ?_
                        rotate_left
                        · (intro w hSw; (try dsimp only at hSw); go_simp; (try with_reducible rfl))
                        try simp only [Act.put, List.setIfInBounds_toArray, List.set_cons_zero, List.set_cons_succ]
                        refine take_w (i := 19) (d := some 230) (v := ?_) rfl (by kernel_rfl) (by kernel_rfl) (by kernel_rfl) (fun _ _ _ h => h) rfl (by rfl) ?_ (by assumption) ?_
                        rotate_left
                        · (intro w hSw; (try dsimp only at hSw); go_simp; (try with_reducible rfl))
                        try simp only [Act.put, List.setIfInBounds_toArray, List.set_cons_zero, List.set_cons_succ]
                        refine take_w (i := 20) (d := some 231) (v := ?_) rfl (by kernel_rfl) (by kernel_rfl) (by kernel_rfl) (fun _ _ _ h => h) rfl (by rfl) ?_ (by assumption) ?_
                        rotate_left
                        · (intro w hSw; (try dsimp only at hSw); go_simp; (try with_reducible rfl))
                        try simp only [Act.put, List.setIfInBounds_toArray, List.set_cons_zero, List.set_cons_succ]
                        refine take_w (i := 21) (d := some 232) (v := ?_) rfl (by kernel_rfl) (by kernel_rfl) (by kernel_rfl) (fun _ _ _ h => h) rfl (by rfl) ?_ (by assumption) ?_
                        rotate_left
                        · (intro w hSw; (try dsimp only at hSw); go_simp; (try with_reducible rfl))
                        try simp only [Act.put, List.setIfInBounds_toArray, List.set_cons_zero, List.set_cons_succ]
                        refine take_w (i := 22) (d := some 233) (v := ?_) rfl (by kernel_rfl) (by kernel_rfl) (by kernel_rfl) (fun _ _ _ h => h) rfl (by rfl) ?_ (by assumption) ?_
                        rotate_left
                        · (intro w hSw; (try dsimp only at hSw); go_simp; (try with_reducible rfl))
                        try simp only [Act.put, List.setIfInBounds_toArray, List.set_cons_zero, List.set_cons_succ]
                        refine take_w (i := 23) (d := some 234) (v := ?_) rfl (by kernel_rfl) (by kernel_rfl) (by kernel_rfl) (fun _ _ _ h => h) rfl (by rfl) ?_ (by assumption) ?_
                        rotate_left
                        · (intro w hSw; (try dsimp only at hSw); go_simp; (try with_reducible rfl))
                        try simp only [Act.put, List.setIfInBounds_toArray, List.set_cons_zero, List.set_cons_succ]
                        refine take_w (i := 24) (d := some 235) (v := ?_) rfl (by kernel_rfl) (by kernel_rfl) (by kernel_rfl) (fun _ _ _ h => h) rfl (by rfl) ?_ (by assumption) ?_
                        rotate_left
                        · (intro w hSw; (try dsimp only at hSw); go_simp; (try with_reducible rfl))
                        try simp only [Act.put, List.setIfInBounds_toArray, List.set_cons_zero, List.set_cons_succ]
                        refine take_w (i := 25) (d := some 236) (v := ?_) rfl (by kernel_rfl) (by kernel_rfl) (by kernel_rfl) (fun _ _ _ h => h) rfl (by rfl) ?_ (by assumption) ?_
                        rotate_left
                        · (intro w hSw; (try dsimp only at hSw); go_simp; (try with_reducible rfl))
                        try simp only [Act.put, List.setIfInBounds_toArray, List.set_cons_zero, List.set_cons_succ]
                        refine take_w (i := 26) (d := some 237) (v := ?_) rfl (by kernel_rfl) (by kernel_rfl) (by kernel_rfl) (fun _ _ _ h => h) rfl (by rfl) ?_ (by assumption) ?_
                        rotate_left
                        · (intro w hSw; (try dsimp only at hSw); go_simp; (try with_reducible rfl))
                        try simp only [Act.put, List.setIfInBounds_toArray, List.set_cons_zero, List.set_cons_succ]
                        refine take_w (i := 27) (d := some 238) (v := ?_) rfl (by kernel_rfl) (by kernel_rfl) (by kernel_rfl) (fun _ _ _ h => h) rfl (by rfl) ?_ (by assumption) ?_
                        rotate_left
                        · (intro w hSw; (try dsimp only at hSw); go_simp; (try with_reducible rfl))
                        try simp only [Act.put, List.setIfInBounds_toArray, List.set_cons_zero, List.set_cons_succ]
                        refine take_w (i := 28) (d := some 239) (v := ?_) rfl (by kernel_rfl) (by kernel_rfl) (by kernel_rfl) (fun _ _ _ h => h) rfl (by rfl) ?_ (by assumption) ?_
                        rotate_left
                        · (intro w hSw; (try dsimp only at hSw); go_simp; (try with_reducible rfl))
                        try simp only [Act.put, List.setIfInBounds_toArray, List.set_cons_zero, List.set_cons_succ]
                        refine take_w (i := 29) (d := some 240) (v := ?_) rfl (by kernel_rfl) (by kernel_rfl) (by kernel_rfl) (fun _ _ _ h => h) rfl (by rfl) ?_ (by assumption) ?_
                        rotate_left
                        · (intro w hSw; (try dsimp only at hSw); go_simp; (try with_reducible rfl))
                        try simp only [Act.put, List.setIfInBounds_toArray, List.set_cons_zero, List.set_cons_succ]
                        refine take_w (i := 30) (d := some 241) (v := ?_) rfl (by kernel_rfl) (by kernel_rfl) (by kernel_rfl) (fun _ _ _ h => h) rfl (by rfl) ?_ (by assumption) ?_
                        rotate_left
                        · (intro w hSw; (try dsimp only at hSw); go_simp; (try with_reducible rfl))
                        try simp only [Act.put, List.setIfInBounds_toArray, List.set_cons_zero, List.set_cons_succ]
                        refine take_w (i := 31) (d := some 242) (v := ?_) rfl (by kernel_rfl) (by kernel_rfl) (by kernel_rfl) (fun _ _ _ h => h) rfl (by rfl) ?_ (by assumption) ?_
                        rotate_left
                        · (intro w hSw; (try dsimp only at hSw); go_simp; (try with_reducible rfl))
                        try simp only [Act.put, List.setIfInBounds_toArray, List.set_cons_zero, List.set_cons_succ]
                        refine take_w (i := 32) (d := some 243) (v := ?_) rfl (by kernel_rfl) (by kernel_rfl) (by kernel_rfl) (fun _ _ _ h => h) rfl (by rfl) ?_ (by assumption) ?_
                        rotate_left
                        · (intro w hSw; (try dsimp only at hSw); go_simp; (try with_reducible rfl))
                        try simp only [Act.put, List.setIfInBounds_toArray, List.set_cons_zero, List.set_cons_succ]
                        refine take_w (i := 33) (d := some 244) (v := ?_) rfl (by kernel_rfl) (by kernel_rfl) (by kernel_rfl) (fun _ _ _ h => h) rfl (by rfl) ?_ (by assumption) ?_
                        rotate_left
                        · (intro w hSw; (try dsimp only at hSw); go_simp; (try with_reducible rfl))
                        try simp only [Act.put, List.setIfInBounds_toArray, List.set_cons_zero, List.set_cons_succ]
                        refine take_w (i := 34) (d := some 245) (v := ?_) rfl (by kernel_rfl) (by kernel_rfl) (by kernel_rfl) (fun _ _ _ h => h) rfl (by rfl) ?_ (by assumption) ?_
                        rotate_left
                        · (intro w hSw; (try dsimp only at hSw); go_simp; (try with_reducible rfl))
                        try simp only [Act.put, List.setIfInBounds_toArray, List.set_cons_zero, List.set_cons_succ]
                        refine take_w (i := 35) (d := some 2) (v := ?_) rfl (by kernel_rfl) (by kernel_rfl) (by kernel_rfl) (fun _ _ _ h => h) rfl (by rfl) ?_ (by assumption) ?_
                        rotate_left
                        · (intro w hSw; (try dsimp only at hSw); go_simp; (try with_reducible rfl))
                        try simp only [Act.put, List.setIfInBounds_toArray, List.set_cons_zero, List.set_cons_succ]
                        refine wpAnyH_done (by kernel_rfl) ?_ _
                        go_wp2_with fail
                        go_ret
                        exact ⟨by first | rfl | simp, HQw4.out.trans HQr2.out.drew⟩

set_option maxRecDepth 100000 in
theorem lifted (os : Os) (started : os.Started) (H : Type) (enc : TypeId × Value → H) :
    ReturnsInHanded {} Tryz.checked os 4 .any (Rows.ifgJoinsSpec.pre6 enc Tryz.prog Tryz.f4 Rows.ifgJoinsRow.domain false) (Rows.ifgJoinsSpec.post enc Tryz.prog Tryz.f4 false true false false) := by
  refine returnsInHanded_of_change_sized (C := Tryz.checked) own started (by kernel_rfl) Tryz.func4
    (ChangeSpec.witness6 (enc := enc) (C := Tryz.checked) false ⟨#[], #[.agg #[.slice none 0 0, .slice none 0 0, .slice none 0 0, .slice none 0 0, .slice none 0 0, .slice none 0 0, .slice none 0 0, .slice none 0 0, .slice none 0 0, .int .i64 0, .int .i64 0]], []⟩ 8 (by kernel_rfl) (by kernel_rfl) (by kernel_rfl) (by kernel_rfl)) ?_
  intro W base args ds gs before hval0 hW hcnd hsz0 _
  have hval : ∀ (j : Nat) t v, Tryz.f4.params[j]? = some t → args[j]? = some v → Value.okWide Tryz.prog W .any base t v := hval0
  have hW' := hW
  obtain ⟨p, q, hA0, hV, rfl, hfz, hnd⟩ := hW
  have hA : DataW.TrodAll enc Tryz.prog W 0 (fun _ => true) true Tryz.f4.params.toList args.toList ds p := hA0
  rw [Tryz.params4] at hA hval
  obtain ⟨v0, vs0, d0, ds0, p0, q0, hargs, rfl, rfl, h0, r0⟩ := trodAll_cons hA
  obtain ⟨rfl, rfl, rfl⟩ := trodAll_nil r0
  obtain rfl : args = #[v0] := by cases args; simp_all
  obtain ⟨rfl, rfl⟩ := trodVars_none hV
  have z0 : ∀ n ∈ d0.weights Tryz.prog 42, n ≤ reachBytes := fun n hn => by
    have := List.all_eq_true.1 hsz0 n (DataW.weights_mem_each (j := 0) (t := 42) (d := d0) (by rw [Tryz.params4]; rfl) rfl n hn)
    simpa using this
  obtain ⟨L0, A, S, F, Av, D, E, Pa, Ta, nl, cl, n, ca, m, d, cr, k1, k2, k3, kp, kt, l, ks, sl, R, c, P, T, x, y, rfl, hnl, hr, hll, hsz, hn, hm, hk, hSi, hl, hs, hsl, hG⟩ := open_IfgJoinsIn (hval 0 42 v0 rfl rfl) h0 z0
  clear hA0 hval0
  refine (walk L0 A S F Av D E Pa Ta nl cl n ca m d cr k1 k2 k3 kp kt l ks sl R c P T x y _ hnl hr hll hsz hn hm hk hSi hl hs hsl hG).mono fun e W' ⟨he, hg⟩ => ?_
  subst he
  exact ⟨_, rfl, post_law laid (by rw [Tryz.params4]; decide +kernel) rfl rfl (by kernel_rfl) Tryz.underlying4 hW' hg⟩

/-- THE STATEMENT -/
theorem proved : Rows.IfgJoinsSaid :=
  OpenClaim.holds_of_wide 4 Tryz.f4 rfl rfl rfl rfl rfl rfl rfl ⟨rfl, rfl, rfl, rfl, rfl⟩ rfl rfl rfl rfl rfl (by kernel_rfl) Tryz.func4 (by kernel_rfl)
    (of_decide_eq_true (by kernel_rfl)) (by unfold Func.isWrapper; first | (rw [if_pos (by decide +kernel)]; kernel_rfl) | (rw [if_neg (by decide +kernel)]; exact ⟨rfl, rfl⟩))
    (fun os started H enc _ => lifted os started H enc)
end Go.Proofs.YtjmopbimleoidaaGreat.ifgJoins
