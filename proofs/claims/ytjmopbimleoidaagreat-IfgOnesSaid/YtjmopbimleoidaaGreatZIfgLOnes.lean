/-
  IfgOnes holds.
-/
import Derived.Test.YtjmopbimleoidaaGreatPh
import Derived.Test.YtjmopbimleoidaaGreatPi
import Derived.Test.YtjmopbimleoidaaGreatPk
import Derived.Test.YtjmopbimleoidaaGreatPm
import Derived.Test.YtjmopbimleoidaaGreatPn
import Derived.Test.YtjmopbimleoidaaGreatPo
import Derived.Test.YtjmopbimleoidaaGreatPq
import Derived.Test.YtjmopbimleoidaaGreatRows
import Derived.OpenShut
import Derived.RegionTactic
import Derived.Deep.CutBlock
namespace Go.Proofs.YtjmopbimleoidaaGreat.ifgOnes
open Go.ChangeShapes Go.WideShapes Go.ChangeAt Go.RowKit Kit Rw Ex Ig Tr Uf
open Go.Proofs.YtjmopbimleoidaaGreat.Sg (Sig Row Sized)
open Go.Proofs.YtjmopbimleoidaaGreat.Hs (Ints Keys BoxT layI KeysP IntsP)
open Go.Proofs.YtjmopbimleoidaaGreat.St (cellsQ sameQ sameQ_iff refPairsEq_any PI)
/-- what One makes of a graph -/
theorem one_both {R : List Int} {c : Cells} {P T : List (List Int)} {ks : List (List Int)} {A S F Av D E Pa Ta : Option Addr} {ca d cr k1 k2 k3 kp kt : Nat} {w : World} {a b : Nat} (hk : Keys w w.heap.size A ks) (hS : Ints w w.heap.size S (layI ks)) (hO : OkS ks) (hG : GArg w R c P T F Av D E Pa Ta k1 k2 k3) (hl : (R.length ≤ 1000 ∧ Few c 1000 ∧ P.length ≤ 1000 ∧ T.length ≤ 1000 ∧ (∀ k ∈ P, k.length ≤ 1000) ∧ (∀ k ∈ T, k.length ≤ 1000))) (hC : Cl R c.V) (hp : P.length = c.V.length) (ht : T.length = c.V.length) (hA : allV ks c.V.length = true) (ha : a < c.V.length) (hb : b < c.V.length) :
    ∃ c2 P2 T2 l2, (fst c.V a = fst c.V b → c2 = c ∧ P2 = P ∧ T2 = T ∧ l2 = []) ∧ (fst c.V a ≠ fst c.V b → c2 = joinC R c a b ∧ P2 = P.set (hi R c.V a b) [] ∧ T2 = T.set (hi R c.V a b) [] ∧ l2 = comeV ks (joinC R c a b).V (rowG P (hi R c.V a b)) (rowG T (hi R c.V a b)) (atV ks (lo R c.V a b : Int))) ∧
      (∀ U, Q w U → Calls Tryz.prog 10 #[.agg #[.slice A ks.length ca, .slice S (layI ks).length d], .agg #[.slice F R.length cr, .slice Av c.V.length k1, .slice D c.N.length k2, .slice E c.M.length k3, .slice Pa P.length kp, .slice Ta T.length kt], .int .i64 (a : Int), .int .i64 (b : Int)] U (OneAns R c2 P2 T2 l2 U)) ∧
      (∀ U, Q w U → Calls Tryz.prog 11 #[.agg #[.slice A ks.length ca, .slice S (layI ks).length d], .agg #[.slice F R.length cr, .slice Av c.V.length k1, .slice D c.N.length k2, .slice E c.M.length k3, .slice Pa P.length kp, .slice Ta T.length kt], .int .i64 (a : Int), .int .i64 (b : Int)] U (OneRef (fun x => x < w.heap.size) R c2 P2 T2 l2 U)) ∧
      Few c2 1001 ∧ P2.length ≤ 1000 ∧ T2.length ≤ 1000 ∧ (∀ k ∈ P2, k.length ≤ 1000) ∧ (∀ k ∈ T2, k.length ≤ 1000) ∧ l2.length ≤ 2000 := by
  obtain ⟨h1, h2, h3, h4, h5, h6⟩ := hl
  have hC1 : ∀ U, Q w U → _ := fun U q => one12 R c P T A S F Av D E Pa Ta ks.length ca (layI ks).length d R.length cr c.V.length k1 c.N.length k2 c.M.length k3 P.length kp T.length kt ks a b U rfl rfl ((hk.q (Nat.le_refl _) q).more q.size) ((hS.q (Nat.le_refl _) q).more q.size) hO rfl rfl rfl rfl rfl rfl (hG.r.q q) (hG.u.q q) ((hG.p.q (Nat.le_refl _) q).more q.size) ((hG.t.q (Nat.le_refl _) q).more q.size) (by omega) ⟨by have := h2.1; omega, by have := h2.2.1; omega, by have := h2.2.2; omega⟩ hp ht (fun k hk => Nat.le_trans (h5 k hk) (by omega)) (fun k hk => Nat.le_trans (h6 k hk) (by omega)) hC ha hb hA
  have hg : GRQ w (fun x => x < w.heap.size) R c P T F Av D E Pa Ta k1 k2 k3 := by
    have go : ∀ {A0 : Option Addr} {cs : List Value}, Tr.Rds w w.heap.size A0 cs → RdsP w (fun x => x < w.heap.size) A0 cs := fun h h0 => by
      obtain ⟨ad, e, hb, hc⟩ := h h0
      exact ⟨ad, e, hb, hb, hc⟩
    exact ⟨go hG.r, go hG.u.v, go hG.u.n, go hG.u.m, Hs.Keys.p hG.p (Nat.le_refl _) (fun b hb => hb), Hs.Keys.p hG.t (Nat.le_refl _) (fun b hb => hb), hG.u.lv, hG.u.ln, hG.u.lm⟩
  have hC2 : ∀ U, Q w U → _ := fun U q => refOne12_any (fun x => x < w.heap.size) R c P T A S F Av D E Pa Ta ks.length ca (layI ks).length d cr k1 k2 k3 kp kt ks a b U rfl ((hk.q (Nat.le_refl _) q).more q.size) (by have := hO.len; unfold maxLen; omega) (fun k hk => by have := hO.key k hk; unfold maxLen; omega) (hg.q q) (fun b hb => Nat.lt_of_lt_of_le hb q.size) ⟨by have := h2.1; omega, by have := h2.2.1; omega, by have := h2.2.2; omega⟩ hp ht (fun k hk => Nat.le_trans (h5 k hk) (by omega)) (fun k hk => Nat.le_trans (h6 k hk) (by omega)) hC ha hb
  have hset : ∀ {Z : List (List Int)} {i : Nat}, (∀ k ∈ Z, k.length ≤ 1000) → ∀ k ∈ Z.set i [], k.length ≤ 1000 := fun h k hk => by
    rcases List.mem_or_eq_of_mem_set hk with h' | rfl
    · exact h k h'
    · simp
  have hrow : ∀ {Z : List (List Int)} {i : Nat}, (∀ k ∈ Z, k.length ≤ 1000) → (rowG Z i).length ≤ 1000 := fun {Z i} h => by
    unfold rowG
    by_cases hi : i < Z.length
    · rw [rows_at hi]; exact h _ (List.getElem_mem _)
    · rw [List.getD_eq_getElem?_getD, List.getElem?_eq_none (by omega)]; simp
  by_cases e : fst c.V a = fst c.V b
  · refine ⟨c, P, T, [], fun _ => ⟨rfl, rfl, rfl, rfl⟩, fun h => absurd e h, fun U q => ?_, fun U q => ?_, ⟨by have := h2.1; omega, by have := h2.2.1; omega, by have := h2.2.2; omega⟩, h3, h4, h5, h6, by simp⟩
    · have := hC1 U q; rwa [if_pos e] at this
    · have := hC2 U q; rwa [if_pos e] at this
  · refine ⟨_, _, _, _, fun h => absurd h e, fun _ => ⟨rfl, rfl, rfl, rfl⟩, fun U q => ?_, fun U q => ?_, few_join a b h2 (by omega), by rw [List.length_set]; exact h3, by rw [List.length_set]; exact h4, hset h5, hset h6, ?_⟩
    · have := hC1 U q; rwa [if_neg e] at this
    · have := hC2 U q; rwa [if_neg e] at this
    · unfold comeV
      rw [List.length_append, List.length_map, List.length_map]
      have := hrow (i := hi R c.V a b) h5
      have := hrow (i := hi R c.V a b) h6
      omega
set_option maxRecDepth 100000 in
set_option maxHeartbeats 16000000 in
theorem walk (L0 A S F Av D E Pa Ta : Option Addr) (nl cl n ca m d cr k1 k2 k3 kp kt : Nat) (l : List Sig) (ks : List (List Int)) (sl : List Int) (R : List Int) (c : Cells) (P T : List (List Int)) (x y : Int) (w : World) (hnl : nl = l.length) (hr : Row w w.heap.size L0 l) (hll : l.length ≤ maxLen) (hsz : Sized l) (hn : n = ks.length) (hm : m = sl.length) (hk : Keys w w.heap.size A ks) (hSi : Ints w w.heap.size S sl) (hl : ks.length ≤ 1152921504606846976) (hs : ∀ k ∈ ks, k.length ≤ 1152921504606846976) (hsl : sl.length ≤ 1152921504606846976) (hG : GArg w R c P T F Av D E Pa Ta k1 k2 k3) :
    Calls Tryz.prog 3 #[.agg #[.slice L0 nl cl, .slice A n ca, .slice S m d, .slice F R.length cr, .slice Av c.V.length k1, .slice D c.N.length k2, .slice E c.M.length k3, .slice Pa P.length kp, .slice Ta T.length kt, .int .i64 x, .int .i64 y]] w fun e w' => e = .returned (.bool true) ∧ Q w w' := by
  subst hnl hn hm
  have HQ0 := Lib.hid ((((Q.refl w).alloc (Obj.cells #[.slice L0 l.length cl, .slice A ks.length ca, .slice S sl.length d, .slice F R.length cr, .slice Av c.V.length k1, .slice D c.N.length k2, .slice E c.M.length k3, .slice Pa P.length kp, .slice Ta T.length kt, .int .i64 x, .int .i64 y] 33)).alloc (Obj.cells #[Value.slice A ks.length ca, Value.slice S sl.length d] 26)).alloc (Obj.cells #[.slice F R.length cr, .slice Av c.V.length k1, .slice D c.N.length k2, .slice E c.M.length k3, .slice Pa P.length kp, .slice Ta T.length kt] 31))
  have HX := Lib.hid (own_new8 w [.slice L0 l.length cl, .slice A ks.length ca, .slice S sl.length d, .slice F R.length cr, .slice Av c.V.length k1, .slice D c.N.length k2, .slice E c.M.length k3, .slice Pa P.length kp, .slice Ta T.length kt, .int .i64 x, .int .i64 y] 33)
  have HT := Lib.hid ((BoxT.new (w.alloc (Obj.cells #[.slice L0 l.length cl, .slice A ks.length ca, .slice S sl.length d, .slice F R.length cr, .slice Av c.V.length k1, .slice D c.N.length k2, .slice E c.M.length k3, .slice Pa P.length kp, .slice Ta T.length kt, .int .i64 x, .int .i64 y] 33)) (Value.slice A ks.length ca) (Value.slice S sl.length d) 26).q ((Q.refl _).alloc (Obj.cells #[.slice F R.length cr, .slice Av c.V.length k1, .slice D c.N.length k2, .slice E c.M.length k3, .slice Pa P.length kp, .slice Ta T.length kt] 31)))
  have HG6 := Lib.hid (Box6.new ((w.alloc (Obj.cells #[.slice L0 l.length cl, .slice A ks.length ca, .slice S sl.length d, .slice F R.length cr, .slice Av c.V.length k1, .slice D c.N.length k2, .slice E c.M.length k3, .slice Pa P.length kp, .slice Ta T.length kt, .int .i64 x, .int .i64 y] 33)).alloc (Obj.cells #[Value.slice A ks.length ca, Value.slice S sl.length d] 26)) (.slice F R.length cr) (.slice Av c.V.length k1) (.slice D c.N.length k2) (.slice E c.M.length k3) (.slice Pa P.length kp) (.slice Ta T.length kt) 31)
  have HRow := Lib.hid hr
  have HKy := Lib.hid hk
  have HSl := Lib.hid hSi
  have HGa := Lib.hid hG
  have CF := Lib.hid (fun (U : World) (p : Q w U) => of12_any L0 A S F Av D E Pa Ta l.length cl ks.length ca sl.length d R.length cr c.V.length k1 c.N.length k2 c.M.length k3 P.length kp T.length kt l ks sl R c P T U rfl ((hr.q (Nat.le_refl _) p).more p.size) rfl rfl ((hk.q (Nat.le_refl _) p).more p.size) ((hSi.q (Nat.le_refl _) p).more p.size) hll hsz hl hs hsl rfl rfl rfl rfl rfl rfl ((hG.r.q p)) (hG.u.q p) ((hG.p.q (Nat.le_refl _) p).more p.size) ((hG.t.q (Nat.le_refl _) p).more p.size) hG.lR hG.lU.1 hG.lU.2.1 hG.lU.2.2 hG.lP hG.lT hG.sP hG.sT)
  clear hr hll hsz hk hSi hl hs hsl hG
  cases hof : of12B l ks sl R c P T
  · rw [hof] at CF
    clear hof HKy HSl HGa HRow
    go_enter Tryz.func3, Tryz.ntmps3
    go_upto_region 1 with fail
    generalize hW : w.alloc (Obj.cells #[.slice L0 l.length cl, .slice A ks.length ca, .slice S sl.length d, .slice F R.length cr, .slice Av c.V.length k1, .slice D c.N.length k2, .slice E c.M.length k3, .slice Pa P.length kp, .slice Ta T.length kt, .int .i64 x, .int .i64 y] 33) = W at *
    clear hW
    have x0 := (HX.out.2 0 _ rfl).1
    have x1 := (HX.out.2 1 _ rfl).1
    have x2 := (HX.out.2 2 _ rfl).1
    have HX2 := Lib.hid (HX.out.q ((Q.refl W).alloc (Obj.cells #[Value.slice A ks.length ca, Value.slice S sl.length d] 26)))
    go_upto_region 3 with fail
    generalize hV : W.alloc (Obj.cells #[Value.slice A ks.length ca, Value.slice S sl.length d] 26) = V at *
    clear hV x0 x1 x2
    have x3 := (HX2.out.2 3 _ rfl).1
    have x4 := (HX2.out.2 4 _ rfl).1
    have x5 := (HX2.out.2 5 _ rfl).1
    have x6 := (HX2.out.2 6 _ rfl).1
    have x7 := (HX2.out.2 7 _ rfl).1
    have x8 := (HX2.out.2 8 _ rfl).1
    have HX3 := Lib.hid (HX2.out.q ((Q.refl V).alloc (Obj.cells #[.slice F R.length cr, .slice Av c.V.length k1, .slice D c.N.length k2, .slice E c.M.length k3, .slice Pa P.length kp, .slice Ta T.length kt] 31)))
    go_upto_region 4 with fail
    generalize hU : V.alloc (Obj.cells #[.slice F R.length cr, .slice Av c.V.length k1, .slice D c.N.length k2, .slice E c.M.length k3, .slice Pa P.length kp, .slice Ta T.length kt] 31) = U at *
    clear hU x3 x4 x5 x6 x7 x8
    have x9 := (HX3.out.2 9 _ rfl).1
    have x10 := (HX3.out.2 10 _ rfl).1
    go_upto_region 6 with fail
    clear x9 x10
    have ALL : Hid (∀ U', Q U U' → U'.cell? ⟨W.heap.size, 0, none⟩ = some (.slice A ks.length ca) ∧ U'.cell? ⟨W.heap.size, 1, none⟩ = some (.slice S sl.length d) ∧ U'.cell? ⟨V.heap.size, 0, none⟩ = some (.slice F R.length cr) ∧ U'.cell? ⟨V.heap.size, 1, none⟩ = some (.slice Av c.V.length k1) ∧ U'.cell? ⟨V.heap.size, 2, none⟩ = some (.slice D c.N.length k2) ∧ U'.cell? ⟨V.heap.size, 3, none⟩ = some (.slice E c.M.length k3) ∧ U'.cell? ⟨V.heap.size, 4, none⟩ = some (.slice Pa P.length kp) ∧ U'.cell? ⟨V.heap.size, 5, none⟩ = some (.slice Ta T.length kt)) := fun U' q => by
      have h1 := HT.out.q q
      have h2 := HG6.out.q q
      exact ⟨h1.c0, h1.c1, h2.c0, h2.c1, h2.c2, h2.c3, h2.c4, h2.c5⟩
    obtain ⟨s0, s1, s2, s3, s4, s5, s6, s7⟩ := ALL.out U (Q.refl _)
    have HQ1 : Hid (Q U U) := Lib.hid (Q.refl _)
    go_wp2_with (first
      | (go_at_call 8; (with_reducible refine (shown12_any U).mono ?_); rintro e w2 ⟨rfl, q1⟩; have HQ2 := Lib.hid (HQ1.out.trans q1); clear s0 s1 s2 s3 s4 s5 s6 s7 q1; obtain ⟨s0, s1, s2, s3, s4, s5, s6, s7⟩ := ALL.out w2 HQ2.out)
      | (go_at_call 9; (with_reducible refine (CF.out w2 (HQ0.out.trans HQ2.out)).mono ?_); rintro e w3 ⟨rfl, q2⟩; have HQ3 := Lib.hid (HQ2.out.trans q2); clear s0 s1 s2 s3 s4 s5 s6 s7 q2; obtain ⟨s0, s1, s2, s3, s4, s5, s6, s7⟩ := ALL.out w3 HQ3.out)
      | fail)
    go_ret
    exact ⟨rfl, HQ0.out.trans HQ3.out⟩
  · rw [hof] at CF
    obtain ⟨hO, hsl, hfew, hC, hp, ht, g6, hA⟩ := of12_plain hof
    clear hof g6
    by_cases h0 : x < 0
    · have d0 : decide (x < 0) = true := decide_eq_true h0
      clear hO hsl hfew hC hp ht hA h0 HKy HSl HGa HRow
      go_enter Tryz.func3, Tryz.ntmps3
      go_upto_region 1 with fail
      generalize hW : w.alloc (Obj.cells #[.slice L0 l.length cl, .slice A ks.length ca, .slice S sl.length d, .slice F R.length cr, .slice Av c.V.length k1, .slice D c.N.length k2, .slice E c.M.length k3, .slice Pa P.length kp, .slice Ta T.length kt, .int .i64 x, .int .i64 y] 33) = W at *
      clear hW
      have x0 := (HX.out.2 0 _ rfl).1
      have x1 := (HX.out.2 1 _ rfl).1
      have x2 := (HX.out.2 2 _ rfl).1
      have HX2 := Lib.hid (HX.out.q ((Q.refl W).alloc (Obj.cells #[Value.slice A ks.length ca, Value.slice S sl.length d] 26)))
      go_upto_region 3 with fail
      generalize hV : W.alloc (Obj.cells #[Value.slice A ks.length ca, Value.slice S sl.length d] 26) = V at *
      clear hV x0 x1 x2
      have x3 := (HX2.out.2 3 _ rfl).1
      have x4 := (HX2.out.2 4 _ rfl).1
      have x5 := (HX2.out.2 5 _ rfl).1
      have x6 := (HX2.out.2 6 _ rfl).1
      have x7 := (HX2.out.2 7 _ rfl).1
      have x8 := (HX2.out.2 8 _ rfl).1
      have HX3 := Lib.hid (HX2.out.q ((Q.refl V).alloc (Obj.cells #[.slice F R.length cr, .slice Av c.V.length k1, .slice D c.N.length k2, .slice E c.M.length k3, .slice Pa P.length kp, .slice Ta T.length kt] 31)))
      go_upto_region 4 with fail
      generalize hU : V.alloc (Obj.cells #[.slice F R.length cr, .slice Av c.V.length k1, .slice D c.N.length k2, .slice E c.M.length k3, .slice Pa P.length kp, .slice Ta T.length kt] 31) = U at *
      clear hU x3 x4 x5 x6 x7 x8
      have x9 := (HX3.out.2 9 _ rfl).1
      have x10 := (HX3.out.2 10 _ rfl).1
      go_upto_region 6 with fail
      clear x9 x10
      have ALL : Hid (∀ U', Q U U' → U'.cell? ⟨W.heap.size, 0, none⟩ = some (.slice A ks.length ca) ∧ U'.cell? ⟨W.heap.size, 1, none⟩ = some (.slice S sl.length d) ∧ U'.cell? ⟨V.heap.size, 0, none⟩ = some (.slice F R.length cr) ∧ U'.cell? ⟨V.heap.size, 1, none⟩ = some (.slice Av c.V.length k1) ∧ U'.cell? ⟨V.heap.size, 2, none⟩ = some (.slice D c.N.length k2) ∧ U'.cell? ⟨V.heap.size, 3, none⟩ = some (.slice E c.M.length k3) ∧ U'.cell? ⟨V.heap.size, 4, none⟩ = some (.slice Pa P.length kp) ∧ U'.cell? ⟨V.heap.size, 5, none⟩ = some (.slice Ta T.length kt)) := fun U' q => by
        have h1 := HT.out.q q
        have h2 := HG6.out.q q
        exact ⟨h1.c0, h1.c1, h2.c0, h2.c1, h2.c2, h2.c3, h2.c4, h2.c5⟩
      obtain ⟨s0, s1, s2, s3, s4, s5, s6, s7⟩ := ALL.out U (Q.refl _)
      have HQ1 : Hid (Q U U) := Lib.hid (Q.refl _)
      go_wp2_with (first
        | (go_at_call 8; (with_reducible refine (shown12_any U).mono ?_); rintro e w2 ⟨rfl, q1⟩; have HQ2 := Lib.hid (HQ1.out.trans q1); clear s0 s1 s2 s3 s4 s5 s6 s7 q1; obtain ⟨s0, s1, s2, s3, s4, s5, s6, s7⟩ := ALL.out w2 HQ2.out)
        | (go_at_call 9; (with_reducible refine (CF.out w2 (HQ0.out.trans HQ2.out)).mono ?_); rintro e w3 ⟨rfl, q2⟩; have HQ3 := Lib.hid (HQ2.out.trans q2); clear s0 s1 s2 s3 s4 s5 s6 s7 q2; obtain ⟨s0, s1, s2, s3, s4, s5, s6, s7⟩ := ALL.out w3 HQ3.out)
        | fail)
      go_ret
      exact ⟨rfl, HQ0.out.trans HQ3.out⟩
    · have d0 : decide (x < 0) = false := decide_eq_false h0
      obtain ⟨a, ha⟩ := Int.eq_ofNat_of_zero_le (by omega : 0 ≤ x)
      have ha : x = (a : Int) := ha
      subst ha
      by_cases h1 : c.V.length ≤ a
      · have d1 : decide ((c.V.length : Int) ≤ (a : Int)) = true := decide_eq_true (by omega)
        have d2 : decide (c.V.length ≤ a) = true := decide_eq_true h1
        clear hO hsl hfew hC hp ht hA h0 h1 HKy HSl HGa HRow
        go_enter Tryz.func3, Tryz.ntmps3
        go_upto_region 1 with fail
        generalize hW : w.alloc (Obj.cells #[.slice L0 l.length cl, .slice A ks.length ca, .slice S sl.length d, .slice F R.length cr, .slice Av c.V.length k1, .slice D c.N.length k2, .slice E c.M.length k3, .slice Pa P.length kp, .slice Ta T.length kt, .int .i64 (a : Int), .int .i64 y] 33) = W at *
        clear hW
        have x0 := (HX.out.2 0 _ rfl).1
        have x1 := (HX.out.2 1 _ rfl).1
        have x2 := (HX.out.2 2 _ rfl).1
        have HX2 := Lib.hid (HX.out.q ((Q.refl W).alloc (Obj.cells #[Value.slice A ks.length ca, Value.slice S sl.length d] 26)))
        go_upto_region 3 with fail
        generalize hV : W.alloc (Obj.cells #[Value.slice A ks.length ca, Value.slice S sl.length d] 26) = V at *
        clear hV x0 x1 x2
        have x3 := (HX2.out.2 3 _ rfl).1
        have x4 := (HX2.out.2 4 _ rfl).1
        have x5 := (HX2.out.2 5 _ rfl).1
        have x6 := (HX2.out.2 6 _ rfl).1
        have x7 := (HX2.out.2 7 _ rfl).1
        have x8 := (HX2.out.2 8 _ rfl).1
        have HX3 := Lib.hid (HX2.out.q ((Q.refl V).alloc (Obj.cells #[.slice F R.length cr, .slice Av c.V.length k1, .slice D c.N.length k2, .slice E c.M.length k3, .slice Pa P.length kp, .slice Ta T.length kt] 31)))
        go_upto_region 4 with fail
        generalize hU : V.alloc (Obj.cells #[.slice F R.length cr, .slice Av c.V.length k1, .slice D c.N.length k2, .slice E c.M.length k3, .slice Pa P.length kp, .slice Ta T.length kt] 31) = U at *
        clear hU x3 x4 x5 x6 x7 x8
        have x9 := (HX3.out.2 9 _ rfl).1
        have x10 := (HX3.out.2 10 _ rfl).1
        go_upto_region 6 with fail
        clear x9 x10
        have ALL : Hid (∀ U', Q U U' → U'.cell? ⟨W.heap.size, 0, none⟩ = some (.slice A ks.length ca) ∧ U'.cell? ⟨W.heap.size, 1, none⟩ = some (.slice S sl.length d) ∧ U'.cell? ⟨V.heap.size, 0, none⟩ = some (.slice F R.length cr) ∧ U'.cell? ⟨V.heap.size, 1, none⟩ = some (.slice Av c.V.length k1) ∧ U'.cell? ⟨V.heap.size, 2, none⟩ = some (.slice D c.N.length k2) ∧ U'.cell? ⟨V.heap.size, 3, none⟩ = some (.slice E c.M.length k3) ∧ U'.cell? ⟨V.heap.size, 4, none⟩ = some (.slice Pa P.length kp) ∧ U'.cell? ⟨V.heap.size, 5, none⟩ = some (.slice Ta T.length kt)) := fun U' q => by
          have h1 := HT.out.q q
          have h2 := HG6.out.q q
          exact ⟨h1.c0, h1.c1, h2.c0, h2.c1, h2.c2, h2.c3, h2.c4, h2.c5⟩
        obtain ⟨s0, s1, s2, s3, s4, s5, s6, s7⟩ := ALL.out U (Q.refl _)
        have HQ1 : Hid (Q U U) := Lib.hid (Q.refl _)
        go_wp2_with (first
          | (go_at_call 8; (with_reducible refine (shown12_any U).mono ?_); rintro e w2 ⟨rfl, q1⟩; have HQ2 := Lib.hid (HQ1.out.trans q1); clear s0 s1 s2 s3 s4 s5 s6 s7 q1; obtain ⟨s0, s1, s2, s3, s4, s5, s6, s7⟩ := ALL.out w2 HQ2.out)
          | (go_at_call 9; (with_reducible refine (CF.out w2 (HQ0.out.trans HQ2.out)).mono ?_); rintro e w3 ⟨rfl, q2⟩; have HQ3 := Lib.hid (HQ2.out.trans q2); clear s0 s1 s2 s3 s4 s5 s6 s7 q2; obtain ⟨s0, s1, s2, s3, s4, s5, s6, s7⟩ := ALL.out w3 HQ3.out)
          | fail)
        go_ret
        exact ⟨rfl, HQ0.out.trans HQ3.out⟩
      · have d1 : decide ((c.V.length : Int) ≤ (a : Int)) = false := decide_eq_false (by omega)
        have d2 : decide (c.V.length ≤ a) = false := decide_eq_false h1
        by_cases h2 : y < 0
        · have d3 : decide (y < 0) = true := decide_eq_true h2
          clear hO hsl hfew hC hp ht hA h0 h1 h2 HKy HSl HGa HRow
          go_enter Tryz.func3, Tryz.ntmps3
          go_upto_region 1 with fail
          generalize hW : w.alloc (Obj.cells #[.slice L0 l.length cl, .slice A ks.length ca, .slice S sl.length d, .slice F R.length cr, .slice Av c.V.length k1, .slice D c.N.length k2, .slice E c.M.length k3, .slice Pa P.length kp, .slice Ta T.length kt, .int .i64 (a : Int), .int .i64 y] 33) = W at *
          clear hW
          have x0 := (HX.out.2 0 _ rfl).1
          have x1 := (HX.out.2 1 _ rfl).1
          have x2 := (HX.out.2 2 _ rfl).1
          have HX2 := Lib.hid (HX.out.q ((Q.refl W).alloc (Obj.cells #[Value.slice A ks.length ca, Value.slice S sl.length d] 26)))
          go_upto_region 3 with fail
          generalize hV : W.alloc (Obj.cells #[Value.slice A ks.length ca, Value.slice S sl.length d] 26) = V at *
          clear hV x0 x1 x2
          have x3 := (HX2.out.2 3 _ rfl).1
          have x4 := (HX2.out.2 4 _ rfl).1
          have x5 := (HX2.out.2 5 _ rfl).1
          have x6 := (HX2.out.2 6 _ rfl).1
          have x7 := (HX2.out.2 7 _ rfl).1
          have x8 := (HX2.out.2 8 _ rfl).1
          have HX3 := Lib.hid (HX2.out.q ((Q.refl V).alloc (Obj.cells #[.slice F R.length cr, .slice Av c.V.length k1, .slice D c.N.length k2, .slice E c.M.length k3, .slice Pa P.length kp, .slice Ta T.length kt] 31)))
          go_upto_region 4 with fail
          generalize hU : V.alloc (Obj.cells #[.slice F R.length cr, .slice Av c.V.length k1, .slice D c.N.length k2, .slice E c.M.length k3, .slice Pa P.length kp, .slice Ta T.length kt] 31) = U at *
          clear hU x3 x4 x5 x6 x7 x8
          have x9 := (HX3.out.2 9 _ rfl).1
          have x10 := (HX3.out.2 10 _ rfl).1
          go_upto_region 6 with fail
          clear x9 x10
          have ALL : Hid (∀ U', Q U U' → U'.cell? ⟨W.heap.size, 0, none⟩ = some (.slice A ks.length ca) ∧ U'.cell? ⟨W.heap.size, 1, none⟩ = some (.slice S sl.length d) ∧ U'.cell? ⟨V.heap.size, 0, none⟩ = some (.slice F R.length cr) ∧ U'.cell? ⟨V.heap.size, 1, none⟩ = some (.slice Av c.V.length k1) ∧ U'.cell? ⟨V.heap.size, 2, none⟩ = some (.slice D c.N.length k2) ∧ U'.cell? ⟨V.heap.size, 3, none⟩ = some (.slice E c.M.length k3) ∧ U'.cell? ⟨V.heap.size, 4, none⟩ = some (.slice Pa P.length kp) ∧ U'.cell? ⟨V.heap.size, 5, none⟩ = some (.slice Ta T.length kt)) := fun U' q => by
            have h1 := HT.out.q q
            have h2 := HG6.out.q q
            exact ⟨h1.c0, h1.c1, h2.c0, h2.c1, h2.c2, h2.c3, h2.c4, h2.c5⟩
          obtain ⟨s0, s1, s2, s3, s4, s5, s6, s7⟩ := ALL.out U (Q.refl _)
          have HQ1 : Hid (Q U U) := Lib.hid (Q.refl _)
          go_wp2_with (first
            | (go_at_call 8; (with_reducible refine (shown12_any U).mono ?_); rintro e w2 ⟨rfl, q1⟩; have HQ2 := Lib.hid (HQ1.out.trans q1); clear s0 s1 s2 s3 s4 s5 s6 s7 q1; obtain ⟨s0, s1, s2, s3, s4, s5, s6, s7⟩ := ALL.out w2 HQ2.out)
            | (go_at_call 9; (with_reducible refine (CF.out w2 (HQ0.out.trans HQ2.out)).mono ?_); rintro e w3 ⟨rfl, q2⟩; have HQ3 := Lib.hid (HQ2.out.trans q2); clear s0 s1 s2 s3 s4 s5 s6 s7 q2; obtain ⟨s0, s1, s2, s3, s4, s5, s6, s7⟩ := ALL.out w3 HQ3.out)
            | fail)
          go_ret
          exact ⟨rfl, HQ0.out.trans HQ3.out⟩
        · have d3 : decide (y < 0) = false := decide_eq_false h2
          obtain ⟨b, hb⟩ := Int.eq_ofNat_of_zero_le (by omega : 0 ≤ y)
          have hb : y = (b : Int) := hb
          subst hb
          by_cases h3 : c.V.length ≤ b
          · have d4 : decide ((c.V.length : Int) ≤ (b : Int)) = true := decide_eq_true (by omega)
            have d5 : decide (c.V.length ≤ b) = true := decide_eq_true h3
            clear hO hsl hfew hC hp ht hA h0 h1 h2 h3 HKy HSl HGa HRow
            go_enter Tryz.func3, Tryz.ntmps3
            go_upto_region 1 with fail
            generalize hW : w.alloc (Obj.cells #[.slice L0 l.length cl, .slice A ks.length ca, .slice S sl.length d, .slice F R.length cr, .slice Av c.V.length k1, .slice D c.N.length k2, .slice E c.M.length k3, .slice Pa P.length kp, .slice Ta T.length kt, .int .i64 (a : Int), .int .i64 (b : Int)] 33) = W at *
            clear hW
            have x0 := (HX.out.2 0 _ rfl).1
            have x1 := (HX.out.2 1 _ rfl).1
            have x2 := (HX.out.2 2 _ rfl).1
            have HX2 := Lib.hid (HX.out.q ((Q.refl W).alloc (Obj.cells #[Value.slice A ks.length ca, Value.slice S sl.length d] 26)))
            go_upto_region 3 with fail
            generalize hV : W.alloc (Obj.cells #[Value.slice A ks.length ca, Value.slice S sl.length d] 26) = V at *
            clear hV x0 x1 x2
            have x3 := (HX2.out.2 3 _ rfl).1
            have x4 := (HX2.out.2 4 _ rfl).1
            have x5 := (HX2.out.2 5 _ rfl).1
            have x6 := (HX2.out.2 6 _ rfl).1
            have x7 := (HX2.out.2 7 _ rfl).1
            have x8 := (HX2.out.2 8 _ rfl).1
            have HX3 := Lib.hid (HX2.out.q ((Q.refl V).alloc (Obj.cells #[.slice F R.length cr, .slice Av c.V.length k1, .slice D c.N.length k2, .slice E c.M.length k3, .slice Pa P.length kp, .slice Ta T.length kt] 31)))
            go_upto_region 4 with fail
            generalize hU : V.alloc (Obj.cells #[.slice F R.length cr, .slice Av c.V.length k1, .slice D c.N.length k2, .slice E c.M.length k3, .slice Pa P.length kp, .slice Ta T.length kt] 31) = U at *
            clear hU x3 x4 x5 x6 x7 x8
            have x9 := (HX3.out.2 9 _ rfl).1
            have x10 := (HX3.out.2 10 _ rfl).1
            go_upto_region 6 with fail
            clear x9 x10
            have ALL : Hid (∀ U', Q U U' → U'.cell? ⟨W.heap.size, 0, none⟩ = some (.slice A ks.length ca) ∧ U'.cell? ⟨W.heap.size, 1, none⟩ = some (.slice S sl.length d) ∧ U'.cell? ⟨V.heap.size, 0, none⟩ = some (.slice F R.length cr) ∧ U'.cell? ⟨V.heap.size, 1, none⟩ = some (.slice Av c.V.length k1) ∧ U'.cell? ⟨V.heap.size, 2, none⟩ = some (.slice D c.N.length k2) ∧ U'.cell? ⟨V.heap.size, 3, none⟩ = some (.slice E c.M.length k3) ∧ U'.cell? ⟨V.heap.size, 4, none⟩ = some (.slice Pa P.length kp) ∧ U'.cell? ⟨V.heap.size, 5, none⟩ = some (.slice Ta T.length kt)) := fun U' q => by
              have h1 := HT.out.q q
              have h2 := HG6.out.q q
              exact ⟨h1.c0, h1.c1, h2.c0, h2.c1, h2.c2, h2.c3, h2.c4, h2.c5⟩
            obtain ⟨s0, s1, s2, s3, s4, s5, s6, s7⟩ := ALL.out U (Q.refl _)
            have HQ1 : Hid (Q U U) := Lib.hid (Q.refl _)
            go_wp2_with (first
              | (go_at_call 8; (with_reducible refine (shown12_any U).mono ?_); rintro e w2 ⟨rfl, q1⟩; have HQ2 := Lib.hid (HQ1.out.trans q1); clear s0 s1 s2 s3 s4 s5 s6 s7 q1; obtain ⟨s0, s1, s2, s3, s4, s5, s6, s7⟩ := ALL.out w2 HQ2.out)
              | (go_at_call 9; (with_reducible refine (CF.out w2 (HQ0.out.trans HQ2.out)).mono ?_); rintro e w3 ⟨rfl, q2⟩; have HQ3 := Lib.hid (HQ2.out.trans q2); clear s0 s1 s2 s3 s4 s5 s6 s7 q2; obtain ⟨s0, s1, s2, s3, s4, s5, s6, s7⟩ := ALL.out w3 HQ3.out)
              | fail)
            go_ret
            exact ⟨rfl, HQ0.out.trans HQ3.out⟩
          · have d4 : decide ((c.V.length : Int) ≤ (b : Int)) = false := decide_eq_false (by omega)
            have d5 : decide (c.V.length ≤ b) = false := decide_eq_false h3
            obtain ⟨c2, P2, T2, l2, -, -, hc1, hc2, f1, f2, f3, f4, f5, f6⟩ := one_both (ca := ca) (d := d) (cr := cr) (kp := kp) (kt := kt) HKy.out (by rw [← hsl]; exact HSl.out) hO HGa.out hfew hC hp ht hA (by omega : a < c.V.length) (by omega : b < c.V.length)
            rw [← hsl] at hc1 hc2
            have CO1 := Lib.hid hc1
            have CO2 := Lib.hid hc2
            have HF := Lib.hid (And.intro hfew.1 (And.intro f1 (And.intro f2 (And.intro f3 (And.intro f4 (And.intro f5 f6))))))
            clear hsl hO hfew hC hp ht hA h0 h1 h2 h3 HKy HSl HGa HRow hc1 hc2 f1 f2 f3 f4 f5 f6
            go_enter Tryz.func3, Tryz.ntmps3
            go_upto_region 1 with fail
            generalize hW : w.alloc (Obj.cells #[.slice L0 l.length cl, .slice A ks.length ca, .slice S sl.length d, .slice F R.length cr, .slice Av c.V.length k1, .slice D c.N.length k2, .slice E c.M.length k3, .slice Pa P.length kp, .slice Ta T.length kt, .int .i64 (a : Int), .int .i64 (b : Int)] 33) = W at *
            clear hW
            have x0 := (HX.out.2 0 _ rfl).1
            have x1 := (HX.out.2 1 _ rfl).1
            have x2 := (HX.out.2 2 _ rfl).1
            have HX2 := Lib.hid (HX.out.q ((Q.refl W).alloc (Obj.cells #[Value.slice A ks.length ca, Value.slice S sl.length d] 26)))
            go_upto_region 3 with fail
            generalize hV : W.alloc (Obj.cells #[Value.slice A ks.length ca, Value.slice S sl.length d] 26) = V at *
            clear hV x0 x1 x2
            have x3 := (HX2.out.2 3 _ rfl).1
            have x4 := (HX2.out.2 4 _ rfl).1
            have x5 := (HX2.out.2 5 _ rfl).1
            have x6 := (HX2.out.2 6 _ rfl).1
            have x7 := (HX2.out.2 7 _ rfl).1
            have x8 := (HX2.out.2 8 _ rfl).1
            have HX3 := Lib.hid (HX2.out.q ((Q.refl V).alloc (Obj.cells #[.slice F R.length cr, .slice Av c.V.length k1, .slice D c.N.length k2, .slice E c.M.length k3, .slice Pa P.length kp, .slice Ta T.length kt] 31)))
            go_upto_region 4 with fail
            generalize hU : V.alloc (Obj.cells #[.slice F R.length cr, .slice Av c.V.length k1, .slice D c.N.length k2, .slice E c.M.length k3, .slice Pa P.length kp, .slice Ta T.length kt] 31) = U at *
            clear hU x3 x4 x5 x6 x7 x8
            have x9 := (HX3.out.2 9 _ rfl).1
            have x10 := (HX3.out.2 10 _ rfl).1
            go_upto_region 6 with fail
            clear x9 x10
            have ALL : Hid (∀ U', Q U U' → U'.cell? ⟨W.heap.size, 0, none⟩ = some (.slice A ks.length ca) ∧ U'.cell? ⟨W.heap.size, 1, none⟩ = some (.slice S sl.length d) ∧ U'.cell? ⟨V.heap.size, 0, none⟩ = some (.slice F R.length cr) ∧ U'.cell? ⟨V.heap.size, 1, none⟩ = some (.slice Av c.V.length k1) ∧ U'.cell? ⟨V.heap.size, 2, none⟩ = some (.slice D c.N.length k2) ∧ U'.cell? ⟨V.heap.size, 3, none⟩ = some (.slice E c.M.length k3) ∧ U'.cell? ⟨V.heap.size, 4, none⟩ = some (.slice Pa P.length kp) ∧ U'.cell? ⟨V.heap.size, 5, none⟩ = some (.slice Ta T.length kt)) := fun U' q => by
              have h1 := HT.out.q q
              have h2 := HG6.out.q q
              exact ⟨h1.c0, h1.c1, h2.c0, h2.c1, h2.c2, h2.c3, h2.c4, h2.c5⟩
            obtain ⟨s0, s1, s2, s3, s4, s5, s6, s7⟩ := ALL.out U (Q.refl _)
            have HQ1 : Hid (Q U U) := Lib.hid (Q.refl _)
            go_upto_region 9 with (first
              | (go_at_call 8; (with_reducible refine (shown12_any U).mono ?_); rintro e w2 ⟨rfl, q1⟩; have HQ2 := Lib.hid (HQ1.out.trans q1); clear s0 s1 s2 s3 s4 s5 s6 s7 q1; obtain ⟨s0, s1, s2, s3, s4, s5, s6, s7⟩ := ALL.out w2 HQ2.out)
              | (go_at_call 9; (with_reducible refine (CF.out w2 (HQ0.out.trans HQ2.out)).mono ?_); rintro e w3 ⟨rfl, q2⟩; have HQ3 := Lib.hid (HQ2.out.trans q2); clear s0 s1 s2 s3 s4 s5 s6 s7 q2; obtain ⟨s0, s1, s2, s3, s4, s5, s6, s7⟩ := ALL.out w3 HQ3.out)
              | fail)
            clear d0 d1 d2 d3 d4 d5
            go_upto_region 10 with (go_at_call 10; refine (CO1.out w3 (HQ0.out.trans HQ3.out)).mono ?_; rintro e w4 ⟨F4, A4, D4, E4, P4, T4, cr4, l41, l42, l43, lp4, lt4, v4, rfl, hg4, hv4, q3⟩; unfold gvP; obtain ⟨X4, y4, rfl, -, hx4⟩ := Rw.own_read hv4; have HG4 := Lib.hid hg4; have HX4 := Lib.hid hx4; have HQ4 := Lib.hid (HQ3.out.trans q3); clear hg4 hv4 hx4 q3 s0 s1 s2 s3 s4 s5 s6 s7)
            have q4 := (Q.refl w4).alloc (Obj.cells #[.slice F4 R.length cr4, .slice A4 c2.V.length l41, .slice D4 c2.N.length l42, .slice E4 c2.M.length l43, .slice P4 P2.length lp4, .slice T4 T2.length lt4] 31)
            have HB4 := Lib.hid (Box6.new w4 (.slice F4 R.length cr4) (.slice A4 c2.V.length l41) (.slice D4 c2.N.length l42) (.slice E4 c2.M.length l43) (.slice P4 P2.length lp4) (.slice T4 T2.length lt4) 31)
            have HG4' := Lib.hid (HG4.out.q q4)
            have HX4' := Lib.hid (HX4.out.q q4)
            have HQ4' := Lib.hid (HQ4.out.trans q4)
            clear q4 HG4 HX4 HQ4
            generalize w4.alloc (Obj.cells #[.slice F4 R.length cr4, .slice A4 c2.V.length l41, .slice D4 c2.N.length l42, .slice E4 c2.M.length l43, .slice P4 P2.length lp4, .slice T4 T2.length lt4] 31) = u4 at *
            obtain ⟨s0, s1, s2, s3, s4, s5, s6, s7⟩ := ALL.out u4 HQ4'.out
            go_upto_region 11 with (go_at_call 11; refine (CO2.out u4 (HQ0.out.trans HQ4'.out)).mono ?_; rintro e w5 ⟨F5, A5, D5, E5, P5, T5, cr5, l51, l52, l53, lp5, lt5, v5, rfl, hg5, hv5, q5⟩; unfold gvP; obtain ⟨X5, y5, rfl, -, hx5⟩ := Rw.own_read hv5; have HG5 := Lib.hid hg5; have HX5 := Lib.hid hx5; have HQ5 := Lib.hid q5; clear hg5 hv5 hx5 q5 s0 s1 s2 s3 s4 s5 s6 s7)
            have q6 := (Q.refl w5).alloc (Obj.cells #[.slice F5 R.length cr5, .slice A5 c2.V.length l51, .slice D5 c2.N.length l52, .slice E5 c2.M.length l53, .slice P5 P2.length lp5, .slice T5 T2.length lt5] 31)
            have HB5 := Lib.hid (Box6.new w5 (.slice F5 R.length cr5) (.slice A5 c2.V.length l51) (.slice D5 c2.N.length l52) (.slice E5 c2.M.length l53) (.slice P5 P2.length lp5) (.slice T5 T2.length lt5) 31)
            have HB46 := Lib.hid ((HB4.out.q HQ5.out).q q6)
            have HG46 := Lib.hid ((HG4'.out.q HQ5.out).q q6)
            have HX46 := Lib.hid ((HX4'.out.q HQ5.out).q q6)
            have HG56 := Lib.hid (HG5.out.q q6)
            have HX56 := Lib.hid (HX5.out.q q6)
            have HQ6 := Lib.hid ((HQ4'.out.trans HQ5.out).trans q6)
            clear q6 HG5 HX5 HQ5 HG4' HX4' HQ4' HB4
            generalize w5.alloc (Obj.cells #[.slice F5 R.length cr5, .slice A5 c2.V.length l51, .slice D5 c2.N.length l52, .slice E5 c2.M.length l53, .slice P5 P2.length lp5, .slice T5 T2.length lt5] 31) = u5 at *
            obtain ⟨m0, m1, m2, m3, m4, m5, -⟩ := HB46.out
            obtain ⟨n0, n1, n2, n3, n4, n5, -⟩ := HB5.out
            have CS := Lib.hid (refSame12_any R c2 P2 T2 F4 A4 D4 E4 P4 T4 F5 A5 D5 E5 P5 T5 _ cr4 _ l41 _ l42 _ l43 _ lp4 _ lt4 _ cr5 _ l51 _ l52 _ l53 _ lp5 _ lt5 u5 rfl rfl rfl rfl rfl rfl rfl rfl rfl rfl rfl rfl HG46.out.r.rds HG46.out.rd HG46.out.p.keys HG46.out.t.keys HG56.out.r.rds HG56.out.rd HG56.out.p.keys HG56.out.t.keys (by have := HF.out.1; unfold maxLen; omega) ⟨by have := HF.out.2.1.1; omega, by have := HF.out.2.1.2.1; omega, by have := HF.out.2.1.2.2; omega⟩ (by have := HF.out.2.2.1; unfold maxLen; omega) (by have := HF.out.2.2.2.1; unfold maxLen; omega) (fun k hk => by have := HF.out.2.2.2.2.1 k hk; unfold maxLen; omega) (fun k hk => by have := HF.out.2.2.2.2.2.1 k hk; unfold maxLen; omega))
            have CP := Lib.hid (fun (U : World) (q : Q u5 U) => refPairsEq_any X4 X5 _ y4 _ y5 l2 l2 U rfl rfl (HX46.out.q q) (HX56.out.q q) (by have := HF.out.2.2.2.2.2.2; omega))
            have HE := Lib.hid ((sameQ_iff l2 l2).2 rfl)
            go_wp2_with (first
              | (go_at_call 12; refine CS.out.mono ?_; rintro e w7 ⟨rfl, q7⟩; have HQ7 := Lib.hid q7; clear q7 m0 m1 m2 m3 m4 m5 n0 n1 n2 n3 n4 n5)
              | (go_at_call 13; refine (CP.out w7 HQ7.out).mono ?_; rintro e w8 ⟨rfl, q8⟩; rw [HE.out]; have HQ8 := Lib.hid (HQ7.out.trans q8); clear q8)
              | fail)
            go_ret
            exact ⟨rfl, HQ0.out.trans (HQ6.out.trans HQ8.out)⟩

set_option maxRecDepth 100000 in
theorem lifted (os : Os) (started : os.Started) (H : Type) (enc : TypeId × Value → H) :
    ReturnsInHanded {} Tryz.checked os 3 .any (Rows.ifgOnesSpec.pre6 enc Tryz.prog Tryz.f3 Rows.ifgOnesRow.domain false) (Rows.ifgOnesSpec.post enc Tryz.prog Tryz.f3 false true false false) := by
  refine returnsInHanded_of_change_sized (C := Tryz.checked) own started (by kernel_rfl) Tryz.func3
    (ChangeSpec.witness6 (enc := enc) (C := Tryz.checked) false ⟨#[], #[.agg #[.slice none 0 0, .slice none 0 0, .slice none 0 0, .slice none 0 0, .slice none 0 0, .slice none 0 0, .slice none 0 0, .slice none 0 0, .slice none 0 0, .int .i64 0, .int .i64 0]], []⟩ 8 (by kernel_rfl) (by kernel_rfl) (by kernel_rfl) (by kernel_rfl)) ?_
  intro W base args ds gs before hval0 hW hcnd hsz0 _
  have hval : ∀ (j : Nat) t v, Tryz.f3.params[j]? = some t → args[j]? = some v → Value.okWide Tryz.prog W .any base t v := hval0
  have hW' := hW
  obtain ⟨p, q, hA0, hV, rfl, hfz, hnd⟩ := hW
  have hA : DataW.TrodAll enc Tryz.prog W 0 (fun _ => true) true Tryz.f3.params.toList args.toList ds p := hA0
  rw [Tryz.params3] at hA hval
  obtain ⟨v0, vs0, d0, ds0, p0, q0, hargs, rfl, rfl, h0, r0⟩ := trodAll_cons hA
  obtain ⟨rfl, rfl, rfl⟩ := trodAll_nil r0
  obtain rfl : args = #[v0] := by cases args; simp_all
  obtain ⟨rfl, rfl⟩ := trodVars_none hV
  have z0 : ∀ n ∈ d0.weights Tryz.prog 33, n ≤ reachBytes := fun n hn => by
    have := List.all_eq_true.1 hsz0 n (DataW.weights_mem_each (j := 0) (t := 33) (d := d0) (by rw [Tryz.params3]; rfl) rfl n hn)
    simpa using this
  obtain ⟨L0, A, S, F, Av, D, E, Pa, Ta, nl, cl, n, ca, m, d, cr, k1, k2, k3, kp, kt, l, ks, sl, R, c, P, T, x, y, rfl, hnl, hr, hll, hsz, hn, hm, hk, hSi, hl, hs, hsl, hG⟩ := open_IfgOnesIn (hval 0 33 v0 rfl rfl) h0 z0
  clear hA0 hval0
  refine (walk L0 A S F Av D E Pa Ta nl cl n ca m d cr k1 k2 k3 kp kt l ks sl R c P T x y _ hnl hr hll hsz hn hm hk hSi hl hs hsl hG).mono fun e W' ⟨he, hg⟩ => ?_
  subst he
  exact ⟨_, rfl, post_law laid (by rw [Tryz.params3]; decide +kernel) rfl rfl (by kernel_rfl) Tryz.underlying4 hW' hg⟩

/-- THE STATEMENT -/
theorem proved : Rows.IfgOnesSaid :=
  OpenClaim.holds_of_wide 3 Tryz.f3 rfl rfl rfl rfl rfl rfl rfl ⟨rfl, rfl, rfl, rfl, rfl⟩ rfl rfl rfl rfl rfl (by kernel_rfl) Tryz.func3 (by kernel_rfl)
    (of_decide_eq_true (by kernel_rfl)) (by unfold Func.isWrapper; first | (rw [if_pos (by decide +kernel)]; kernel_rfl) | (rw [if_neg (by decide +kernel)]; exact ⟨rfl, rfl⟩))
    (fun os started H enc _ => lifted os started H enc)
end Go.Proofs.YtjmopbimleoidaaGreat.ifgOnes
