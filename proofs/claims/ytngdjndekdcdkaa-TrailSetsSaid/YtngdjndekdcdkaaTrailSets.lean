/-
  TrailSets: a cell that is set is so, all others stay; one that is new is behind; nothing else changes cells. Proved for all cells, places and numbers: no condition.
-/
import Derived.Test.YtngdjndekdcdkaaTrailO
import Derived.Test.YtngdjndekdcdkaaRows
import Derived.Test.YtngdjndekdcdkaaTrailS
namespace Go.Proofs.Ytngdjndekdcdkaa.trailSets
open Go.ChangeShapes Go.WideShapes Go.RowKit Kit Go.Deep Go.Joins Tr

set_option maxRecDepth 100000 in
set_option maxHeartbeats 4000000 in
theorem walk (c : Cells) (A D E : Option Addr) (n1 k1 n2 k2 n3 k3 : Nat) (at_ v : Int) (w : World) (h1 : n1 = c.V.length) (h2 : n2 = c.N.length) (h3 : n3 = c.M.length) (h : Rd w c A k1 D k2 E k3) (hw : Few c 1152921504606846976) :
    Calls Try.prog 5 #[.agg #[.slice A n1 k1, .slice D n2 k2, .slice E n3 k3], .int .i64 at_, .int .i64 v] w fun e w' => e = .returned (.bool true) ∧ Q w w' := by
  subst h1 h2 h3
  have q0 := (Q.refl w).alloc (Obj.cells #[Value.slice A c.V.length k1, Value.slice D c.N.length k2, Value.slice E c.M.length k3] 44)
  have HB1 := Lib.hid (Box3.new w (Value.slice A c.V.length k1) (Value.slice D c.N.length k2) (Value.slice E c.M.length k3) 44)
  have HR1 := Lib.hid (h.q q0)
  obtain ⟨l1, l2, l3⟩ := hw
  have Hl := Lib.hid (⟨l1, l2, l3⟩ : c.V.length ≤ 1152921504606846976 ∧ c.N.length ≤ 1152921504606846976 ∧ c.M.length ≤ 1152921504606846976)
  clear h l1 l2 l3
  go_enter Try.func5, Try.ntmps5
  go_upto_region 1 with fail
  generalize w.alloc (Obj.cells #[Value.slice A c.V.length k1, Value.slice D c.N.length k2, Value.slice E c.M.length k3] 44) = W0 at *
  go_upto_region 2 with (go_at_call 17; refine (shown_any _).mono ?_; rintro e w1 ⟨rfl, q1⟩)
  have Hq := Lib.hid (q0.trans q1)
  have HB1 := Lib.hid (HB1.out.q q1)
  have HR1 := Lib.hid (HR1.out.q q1)
  have b1_0 := HB1.out.c0
  have b1_1 := HB1.out.c1
  have b1_2 := HB1.out.c2
  clear q0 q1
  cases hfw : fewB c
  · go_wp2_with (go_at_call 18; refine (few_any c _ _ _ _ _ _ _ _ _ _ rfl rfl rfl (by have := Hl.out; omega) (by have := Hl.out; omega) (by have := Hl.out; omega)).mono ?_; rintro e w2 ⟨rfl, q2⟩; rw [hfw])
    go_ret
    exact ⟨rfl, Hq.out.trans q2⟩
  have Hf := Lib.hid (few_500 hfw)
  have hfM : Few c 1000000 := few_more Hf.out (by omega)
  obtain ⟨fv, fn, fm⟩ := Hf.out
  have HfM := Lib.hid hfM
  clear hfM
  go_wp2_with fail
  refine (few_any c _ _ _ _ _ _ _ _ _ _ rfl rfl rfl (by omega) (by omega) (by omega)).mono ?_
  rintro e w2 ⟨rfl, q2⟩
  rw [hfw]
  clear b1_0 b1_1 b1_2 hfw
  have HB1 := Lib.hid (HB1.out.q q2)
  have HR1 := Lib.hid (HR1.out.q q2)
  have Hq := Lib.hid (Hq.out.trans q2)
  have b1_0 := HB1.out.c0
  have b1_1 := HB1.out.c1
  have b1_2 := HB1.out.c2
  clear q2
  go_wp2_with fail
  refine (refRight_any c _ _ _ _ _ _ _ _ _ _ rfl rfl rfl HR1.out HfM.out).mono ?_
  rintro e w3 ⟨rfl, q3⟩
  cases hrt : rightB c
  · go_wp2_with fail
    go_ret
    exact ⟨rfl, Hq.out.trans q3⟩
  have HRt := Lib.hid hrt
  clear b1_0 b1_1 b1_2 hrt
  have HB1 := Lib.hid (HB1.out.q q3)
  have HR1 := Lib.hid (HR1.out.q q3)
  have Hq := Lib.hid (Hq.out.trans q3)
  clear q3
  have b1_0 := HB1.out.c0
  have b1_1 := HB1.out.c1
  have b1_2 := HB1.out.c2
  by_cases hat : 0 ≤ at_ ∧ at_ < c.V.length
  · obtain ⟨a, rfl⟩ := Int.eq_ofNat_of_zero_le hat.1
    have hat : a < c.V.length := by omega
    go_upto_region 5 with (go_at_call 21; refine (set_some c a v _ _ _ _ _ _ _ _ _ _ rfl rfl rfl HR1.out HfM.out hat).mono ?_; rintro e w4 ⟨g1_4, k1_4, g2_4, k2_4, g3_4, k3_4, rfl, hO4⟩; have HO4 := Lib.hid hO4; clear hO4)
    clear b1_0 b1_1 b1_2
    have qb := (HO4.out.q).trans ((Q.refl w4).alloc (.cells #[.slice (some ⟨g1_4, 0, none⟩) (setC c a v).V.length k1_4, .slice (some ⟨g2_4, 0, none⟩) (setC c a v).N.length k2_4, .slice (some ⟨g3_4, 0, none⟩) (setC c a v).M.length k3_4] 44))
    have HB1 := Lib.hid (HB1.out.q qb)
    have HR1 := Lib.hid (HR1.out.q qb)
    have Hq := Lib.hid (Hq.out.trans qb)
    have HB8 := Lib.hid (Box3.new w4 (.slice (some ⟨g1_4, 0, none⟩) (setC c a v).V.length k1_4) (.slice (some ⟨g2_4, 0, none⟩) (setC c a v).N.length k2_4) (.slice (some ⟨g3_4, 0, none⟩) (setC c a v).M.length k3_4) 44)
    have HR8 := Lib.hid (HO4.out.rd.q ((Q.refl w4).alloc (.cells #[.slice (some ⟨g1_4, 0, none⟩) (setC c a v).V.length k1_4, .slice (some ⟨g2_4, 0, none⟩) (setC c a v).N.length k2_4, .slice (some ⟨g3_4, 0, none⟩) (setC c a v).M.length k3_4] 44)))
    clear qb HO4
    generalize w4.alloc (.cells #[.slice (some ⟨g1_4, 0, none⟩) (setC c a v).V.length k1_4, .slice (some ⟨g2_4, 0, none⟩) (setC c a v).N.length k2_4, .slice (some ⟨g3_4, 0, none⟩) (setC c a v).M.length k3_4] 44) = W4 at *
    generalize w4.heap.size = B4 at *
    have b1_0 := HB1.out.c0
    have b1_1 := HB1.out.c1
    have b1_2 := HB1.out.c2
    go_upto_region 6 with (go_at_call 22; refine (grow_any c v _ _ _ _ _ _ _ _ _ _ rfl rfl rfl HR1.out HfM.out).mono ?_; rintro e w5 ⟨g1_5, k1_5, g2_5, k2_5, g3_5, k3_5, rfl, hO5⟩; have HO5 := Lib.hid hO5; clear hO5)
    clear b1_0 b1_1 b1_2
    have qb := (HO5.out.q).trans ((Q.refl w5).alloc (.cells #[.slice (some ⟨g1_5, 0, none⟩) (growC c v).V.length k1_5, .slice (some ⟨g2_5, 0, none⟩) (growC c v).N.length k2_5, .slice (some ⟨g3_5, 0, none⟩) (growC c v).M.length k3_5] 44))
    have HB1 := Lib.hid (HB1.out.q qb)
    have HR1 := Lib.hid (HR1.out.q qb)
    have HB8 := Lib.hid (HB8.out.q qb)
    have HR8 := Lib.hid (HR8.out.q qb)
    have Hq := Lib.hid (Hq.out.trans qb)
    have HB10 := Lib.hid (Box3.new w5 (.slice (some ⟨g1_5, 0, none⟩) (growC c v).V.length k1_5) (.slice (some ⟨g2_5, 0, none⟩) (growC c v).N.length k2_5) (.slice (some ⟨g3_5, 0, none⟩) (growC c v).M.length k3_5) 44)
    have HR10 := Lib.hid (HO5.out.rd.q ((Q.refl w5).alloc (.cells #[.slice (some ⟨g1_5, 0, none⟩) (growC c v).V.length k1_5, .slice (some ⟨g2_5, 0, none⟩) (growC c v).N.length k2_5, .slice (some ⟨g3_5, 0, none⟩) (growC c v).M.length k3_5] 44)))
    clear qb HO5
    generalize w5.alloc (.cells #[.slice (some ⟨g1_5, 0, none⟩) (growC c v).V.length k1_5, .slice (some ⟨g2_5, 0, none⟩) (growC c v).N.length k2_5, .slice (some ⟨g3_5, 0, none⟩) (growC c v).M.length k3_5] 44) = W5 at *
    generalize w5.heap.size = B5 at *
    have b1_0 := HB1.out.c0
    have b1_1 := HB1.out.c1
    have b1_2 := HB1.out.c2
    go_upto_region 7 with (go_at_call 20; refine (mark_any c _ _ _ _ _ _ _ _ _ _ rfl rfl rfl HR1.out HfM.out).mono ?_; rintro e w6 ⟨g1_6, k1_6, g2_6, k2_6, g3_6, k3_6, rfl, hO6⟩; have HO6 := Lib.hid hO6; clear hO6)
    clear b1_0 b1_1 b1_2
    have qb := (HO6.out.q).trans ((Q.refl w6).alloc (.cells #[.slice (some ⟨g1_6, 0, none⟩) (markC c).V.length k1_6, .slice (some ⟨g2_6, 0, none⟩) (markC c).N.length k2_6, .slice (some ⟨g3_6, 0, none⟩) (markC c).M.length k3_6] 44))
    have HB1 := Lib.hid (HB1.out.q qb)
    have HR1 := Lib.hid (HR1.out.q qb)
    have HB8 := Lib.hid (HB8.out.q qb)
    have HR8 := Lib.hid (HR8.out.q qb)
    have HB10 := Lib.hid (HB10.out.q qb)
    have HR10 := Lib.hid (HR10.out.q qb)
    have Hq := Lib.hid (Hq.out.trans qb)
    have HB11 := Lib.hid (Box3.new w6 (.slice (some ⟨g1_6, 0, none⟩) (markC c).V.length k1_6) (.slice (some ⟨g2_6, 0, none⟩) (markC c).N.length k2_6) (.slice (some ⟨g3_6, 0, none⟩) (markC c).M.length k3_6) 44)
    have HR11 := Lib.hid (HO6.out.rd.q ((Q.refl w6).alloc (.cells #[.slice (some ⟨g1_6, 0, none⟩) (markC c).V.length k1_6, .slice (some ⟨g2_6, 0, none⟩) (markC c).N.length k2_6, .slice (some ⟨g3_6, 0, none⟩) (markC c).M.length k3_6] 44)))
    clear qb HO6
    generalize w6.alloc (.cells #[.slice (some ⟨g1_6, 0, none⟩) (markC c).V.length k1_6, .slice (some ⟨g2_6, 0, none⟩) (markC c).N.length k2_6, .slice (some ⟨g3_6, 0, none⟩) (markC c).M.length k3_6] 44) = W6 at *
    generalize w6.heap.size = B6 at *
    have b1_0 := HB1.out.c0
    have b1_1 := HB1.out.c1
    have b1_2 := HB1.out.c2
    have b8_0 := HB8.out.c0
    have b8_1 := HB8.out.c1
    have b8_2 := HB8.out.c2
    have b10_0 := HB10.out.c0
    have b10_1 := HB10.out.c1
    have b10_2 := HB10.out.c2
    have b11_0 := HB11.out.c0
    have b11_1 := HB11.out.c1
    have b11_2 := HB11.out.c2
    have xg : W6.cell? ⟨g1_5, c.V.length, none⟩ = some (.int .i64 v) := by
      have := HR10.out.v.own (k := c.V.length) (x := v) (by simp [growC])
      exact this
    have e1 : (growC c v).V.length = c.V.length + 1 := by simp [growC]
    rw [e1] at b10_0
    have fv2 : c.V.length ≤ 500 := fv
    clear e1
    go_wp2_with fail
    refine (ints_same _ _ _ _ _ _ c.V _ rfl rfl HR11.out.v HR1.out.v (by omega)).mono ?_
    rintro e y1 ⟨rfl, hd⟩
    have qs := q_drewN _ hd
    clear b1_0 b1_1 b1_2 b8_0 b8_1 b8_2 b10_0 b10_1 b10_2 b11_0 b11_1 b11_2
    have HB1 := Lib.hid (HB1.out.q qs)
    have HR1 := Lib.hid (HR1.out.q qs)
    have HB8 := Lib.hid (HB8.out.q qs)
    have HR8 := Lib.hid (HR8.out.q qs)
    have HB10 := Lib.hid (HB10.out.q qs)
    have HR10 := Lib.hid (HR10.out.q qs)
    have HB11 := Lib.hid (HB11.out.q qs)
    have HR11 := Lib.hid (HR11.out.q qs)
    have Hq := Lib.hid (Hq.out.trans qs)
    clear qs hd xg
    have b1_0 := HB1.out.c0
    have b1_1 := HB1.out.c1
    have b1_2 := HB1.out.c2
    have b8_0 := HB8.out.c0
    have b8_1 := HB8.out.c1
    have b8_2 := HB8.out.c2
    have b10_0 := HB10.out.c0
    have b10_1 := HB10.out.c1
    have b10_2 := HB10.out.c2
    have b11_0 := HB11.out.c0
    have b11_1 := HB11.out.c1
    have b11_2 := HB11.out.c2
    have e1 : (setC c a v).V.length = c.V.length := by simp [setC]
    have e2 : (setC c a v).N.length = c.N.length + 1 := by simp [setC]
    rw [e1] at b8_0
    rw [e2] at b8_1
    clear e1 e2
    have ha1 : decide ((a : Int) < 0) = false := decide_eq_false (by omega)
    have ha2 : decide ((c.V.length : Int) ≤ (a : Int)) = false := decide_eq_false (by omega)
    have ha3 : decide (c.V.length ≤ a) = false := decide_eq_false (by omega)
    go_wp2_with fail
    go_loopw [12] (fun i wr => ∃ k : Nat, k ≤ c.V.length ∧ i = .int .i64 k ∧ Hid (∃ d, wr = y1.drewN d)) (fun i _ => c.V.length - (intOf i).toNat)
    case atStart => exact ⟨0, Nat.zero_le _, rfl, Lib.hid ⟨0, rfl⟩⟩
    case round =>
      obtain ⟨k, hk, rfl, HD⟩ := hrel
      have qr := Lib.hid (q_drewN y1 HD.out)
      have b8_0 : wr.cell? ⟨B4, 0, none⟩ = some (.slice (some ⟨g1_4, 0, none⟩) c.V.length k1_4) := by have := (HB8.out.q qr.out).c0; rwa [show (setC c a v).V.length = c.V.length by simp [setC]] at this
      have b8_1 : wr.cell? ⟨B4, 1, none⟩ = some (.slice (some ⟨g2_4, 0, none⟩) (c.N.length + 1) k2_4) := by have := (HB8.out.q qr.out).c1; rwa [show (setC c a v).N.length = c.N.length + 1 by simp [setC]] at this
      have b1_0 := (HB1.out.q qr.out).c0
      have b1_1 := (HB1.out.q qr.out).c1
      by_cases hlt : k < c.V.length
      · obtain ⟨ad, e, _, x1⟩ := (HR1.out.v.q qr.out).int_at hlt
        rw [e] at b1_0
        clear e
        have j0 : (0 : Int) ≤ (k : Int) := Int.natCast_nonneg _
        have j1 : (k : Int) < (c.V.length : Int) := by omega
        by_cases hka : k = a
        · subst hka
          have x8 : wr.cell? ⟨g1_4, k, none⟩ = some (.int .i64 v) := (HR8.out.q qr.out).v.own (by simp [setC, hlt])
          have n1 : (v != v) = false := by simp
          go_wp2_with fail
          go_quiet (fail)
          go_wp2_with fail
          go_roundw
          case rel => exact ⟨k + 1, by omega, by go_num, Lib.hid (by obtain ⟨d, rfl⟩ := HD.out; exact ⟨_, drewN_add _ _ _⟩)⟩
          case measure => simp [intOf]; omega
        · have x8 : wr.cell? ⟨g1_4, k, none⟩ = some (.int .i64 c.V[k]) := (HR8.out.q qr.out).v.own (by simp only [setC]; rw [List.getElem?_set_ne (fun e => hka e.symm)]; exact List.getElem?_eq_getElem hlt)
          have n1 : ((k : Int) == (a : Int)) = false := by simp; omega
          have n2 : ((k : Int) != (a : Int)) = true := by simp; omega
          have n1' : (k == a) = false := by simpa using hka
          have n2' : (k != a) = true := by simpa using hka
          have n3 : (c.V[k] != c.V[k]) = false := by simp
          clear hka
          go_wp2_with fail
          go_quiet (fail)
          go_wp2_with fail
          go_roundw
          case rel => exact ⟨k + 1, by omega, by go_num, Lib.hid (by obtain ⟨d, rfl⟩ := HD.out; exact ⟨_, drewN_add _ _ _⟩)⟩
          case measure => simp [intOf]; omega
      · go_wp2_with fail
        go_ret
        exact ⟨rfl, Hq.out.trans qr.out⟩
  · go_upto_region 5 with (go_at_call 21; refine (set_none c at_ v _ _ _ _ _ _ _ _ _ _ rfl rfl rfl HR1.out HfM.out hat).mono ?_; rintro e w4 ⟨g1_4, k1_4, g2_4, k2_4, g3_4, k3_4, rfl, hO4⟩; have HO4 := Lib.hid hO4; clear hO4)
    clear b1_0 b1_1 b1_2
    have qb := (HO4.out.q).trans ((Q.refl w4).alloc (.cells #[.slice (some ⟨g1_4, 0, none⟩) (c).V.length k1_4, .slice (some ⟨g2_4, 0, none⟩) (c).N.length k2_4, .slice (some ⟨g3_4, 0, none⟩) (c).M.length k3_4] 44))
    have HB1 := Lib.hid (HB1.out.q qb)
    have HR1 := Lib.hid (HR1.out.q qb)
    have Hq := Lib.hid (Hq.out.trans qb)
    have HB8 := Lib.hid (Box3.new w4 (.slice (some ⟨g1_4, 0, none⟩) (c).V.length k1_4) (.slice (some ⟨g2_4, 0, none⟩) (c).N.length k2_4) (.slice (some ⟨g3_4, 0, none⟩) (c).M.length k3_4) 44)
    have HR8 := Lib.hid (HO4.out.rd.q ((Q.refl w4).alloc (.cells #[.slice (some ⟨g1_4, 0, none⟩) (c).V.length k1_4, .slice (some ⟨g2_4, 0, none⟩) (c).N.length k2_4, .slice (some ⟨g3_4, 0, none⟩) (c).M.length k3_4] 44)))
    clear qb HO4
    generalize w4.alloc (.cells #[.slice (some ⟨g1_4, 0, none⟩) (c).V.length k1_4, .slice (some ⟨g2_4, 0, none⟩) (c).N.length k2_4, .slice (some ⟨g3_4, 0, none⟩) (c).M.length k3_4] 44) = W4 at *
    generalize w4.heap.size = B4 at *
    have b1_0 := HB1.out.c0
    have b1_1 := HB1.out.c1
    have b1_2 := HB1.out.c2
    go_upto_region 6 with (go_at_call 22; refine (grow_any c v _ _ _ _ _ _ _ _ _ _ rfl rfl rfl HR1.out HfM.out).mono ?_; rintro e w5 ⟨g1_5, k1_5, g2_5, k2_5, g3_5, k3_5, rfl, hO5⟩; have HO5 := Lib.hid hO5; clear hO5)
    clear b1_0 b1_1 b1_2
    have qb := (HO5.out.q).trans ((Q.refl w5).alloc (.cells #[.slice (some ⟨g1_5, 0, none⟩) (growC c v).V.length k1_5, .slice (some ⟨g2_5, 0, none⟩) (growC c v).N.length k2_5, .slice (some ⟨g3_5, 0, none⟩) (growC c v).M.length k3_5] 44))
    have HB1 := Lib.hid (HB1.out.q qb)
    have HR1 := Lib.hid (HR1.out.q qb)
    have HB8 := Lib.hid (HB8.out.q qb)
    have HR8 := Lib.hid (HR8.out.q qb)
    have Hq := Lib.hid (Hq.out.trans qb)
    have HB10 := Lib.hid (Box3.new w5 (.slice (some ⟨g1_5, 0, none⟩) (growC c v).V.length k1_5) (.slice (some ⟨g2_5, 0, none⟩) (growC c v).N.length k2_5) (.slice (some ⟨g3_5, 0, none⟩) (growC c v).M.length k3_5) 44)
    have HR10 := Lib.hid (HO5.out.rd.q ((Q.refl w5).alloc (.cells #[.slice (some ⟨g1_5, 0, none⟩) (growC c v).V.length k1_5, .slice (some ⟨g2_5, 0, none⟩) (growC c v).N.length k2_5, .slice (some ⟨g3_5, 0, none⟩) (growC c v).M.length k3_5] 44)))
    clear qb HO5
    generalize w5.alloc (.cells #[.slice (some ⟨g1_5, 0, none⟩) (growC c v).V.length k1_5, .slice (some ⟨g2_5, 0, none⟩) (growC c v).N.length k2_5, .slice (some ⟨g3_5, 0, none⟩) (growC c v).M.length k3_5] 44) = W5 at *
    generalize w5.heap.size = B5 at *
    have b1_0 := HB1.out.c0
    have b1_1 := HB1.out.c1
    have b1_2 := HB1.out.c2
    go_upto_region 7 with (go_at_call 20; refine (mark_any c _ _ _ _ _ _ _ _ _ _ rfl rfl rfl HR1.out HfM.out).mono ?_; rintro e w6 ⟨g1_6, k1_6, g2_6, k2_6, g3_6, k3_6, rfl, hO6⟩; have HO6 := Lib.hid hO6; clear hO6)
    clear b1_0 b1_1 b1_2
    have qb := (HO6.out.q).trans ((Q.refl w6).alloc (.cells #[.slice (some ⟨g1_6, 0, none⟩) (markC c).V.length k1_6, .slice (some ⟨g2_6, 0, none⟩) (markC c).N.length k2_6, .slice (some ⟨g3_6, 0, none⟩) (markC c).M.length k3_6] 44))
    have HB1 := Lib.hid (HB1.out.q qb)
    have HR1 := Lib.hid (HR1.out.q qb)
    have HB8 := Lib.hid (HB8.out.q qb)
    have HR8 := Lib.hid (HR8.out.q qb)
    have HB10 := Lib.hid (HB10.out.q qb)
    have HR10 := Lib.hid (HR10.out.q qb)
    have Hq := Lib.hid (Hq.out.trans qb)
    have HB11 := Lib.hid (Box3.new w6 (.slice (some ⟨g1_6, 0, none⟩) (markC c).V.length k1_6) (.slice (some ⟨g2_6, 0, none⟩) (markC c).N.length k2_6) (.slice (some ⟨g3_6, 0, none⟩) (markC c).M.length k3_6) 44)
    have HR11 := Lib.hid (HO6.out.rd.q ((Q.refl w6).alloc (.cells #[.slice (some ⟨g1_6, 0, none⟩) (markC c).V.length k1_6, .slice (some ⟨g2_6, 0, none⟩) (markC c).N.length k2_6, .slice (some ⟨g3_6, 0, none⟩) (markC c).M.length k3_6] 44)))
    clear qb HO6
    generalize w6.alloc (.cells #[.slice (some ⟨g1_6, 0, none⟩) (markC c).V.length k1_6, .slice (some ⟨g2_6, 0, none⟩) (markC c).N.length k2_6, .slice (some ⟨g3_6, 0, none⟩) (markC c).M.length k3_6] 44) = W6 at *
    generalize w6.heap.size = B6 at *
    have b1_0 := HB1.out.c0
    have b1_1 := HB1.out.c1
    have b1_2 := HB1.out.c2
    have b8_0 := HB8.out.c0
    have b8_1 := HB8.out.c1
    have b8_2 := HB8.out.c2
    have b10_0 := HB10.out.c0
    have b10_1 := HB10.out.c1
    have b10_2 := HB10.out.c2
    have b11_0 := HB11.out.c0
    have b11_1 := HB11.out.c1
    have b11_2 := HB11.out.c2
    have xg : W6.cell? ⟨g1_5, c.V.length, none⟩ = some (.int .i64 v) := by
      have := HR10.out.v.own (k := c.V.length) (x := v) (by simp [growC])
      exact this
    have e1 : (growC c v).V.length = c.V.length + 1 := by simp [growC]
    rw [e1] at b10_0
    have fv2 : c.V.length ≤ 500 := fv
    clear e1
    go_wp2_with fail
    refine (ints_same _ _ _ _ _ _ c.V _ rfl rfl HR11.out.v HR1.out.v (by omega)).mono ?_
    rintro e y1 ⟨rfl, hd⟩
    have qs := q_drewN _ hd
    clear b1_0 b1_1 b1_2 b8_0 b8_1 b8_2 b10_0 b10_1 b10_2 b11_0 b11_1 b11_2
    have HB1 := Lib.hid (HB1.out.q qs)
    have HR1 := Lib.hid (HR1.out.q qs)
    have HB8 := Lib.hid (HB8.out.q qs)
    have HR8 := Lib.hid (HR8.out.q qs)
    have HB10 := Lib.hid (HB10.out.q qs)
    have HR10 := Lib.hid (HR10.out.q qs)
    have HB11 := Lib.hid (HB11.out.q qs)
    have HR11 := Lib.hid (HR11.out.q qs)
    have Hq := Lib.hid (Hq.out.trans qs)
    clear qs hd xg
    have b1_0 := HB1.out.c0
    have b1_1 := HB1.out.c1
    have b1_2 := HB1.out.c2
    have b8_0 := HB8.out.c0
    have b8_1 := HB8.out.c1
    have b8_2 := HB8.out.c2
    have b10_0 := HB10.out.c0
    have b10_1 := HB10.out.c1
    have b10_2 := HB10.out.c2
    have b11_0 := HB11.out.c0
    have b11_1 := HB11.out.c1
    have b11_2 := HB11.out.c2
    by_cases hneg : at_ < 0
    · have hd1 : decide (at_ < 0) = true := decide_eq_true hneg
      clear hneg
      go_wp2_with fail
      refine (same_any c _ _ _ _ _ _ _ _ _ _ _ _ _ _ _ _ _ _ _ rfl rfl rfl rfl rfl rfl HR8.out HR1.out HfM.out).mono ?_
      rintro e y2 ⟨rfl, qs⟩
      clear b1_0 b1_1 b1_2 b8_0 b8_1 b8_2 b10_0 b10_1 b10_2 b11_0 b11_1 b11_2
      have HB1 := Lib.hid (HB1.out.q qs)
      have HR1 := Lib.hid (HR1.out.q qs)
      have HB8 := Lib.hid (HB8.out.q qs)
      have HR8 := Lib.hid (HR8.out.q qs)
      have HB10 := Lib.hid (HB10.out.q qs)
      have HR10 := Lib.hid (HR10.out.q qs)
      have HB11 := Lib.hid (HB11.out.q qs)
      have HR11 := Lib.hid (HR11.out.q qs)
      have Hq := Lib.hid (Hq.out.trans qs)
      clear qs
      go_wp2_with fail
      go_ret
      exact ⟨rfl, Hq.out⟩
    · have hd1 : decide (at_ < 0) = false := decide_eq_false hneg
      have hd2 : decide ((c.V.length : Int) ≤ at_) = true := decide_eq_true (by omega)
      clear hneg
      go_wp2_with fail
      refine (same_any c _ _ _ _ _ _ _ _ _ _ _ _ _ _ _ _ _ _ _ rfl rfl rfl rfl rfl rfl HR8.out HR1.out HfM.out).mono ?_
      rintro e y2 ⟨rfl, qs⟩
      clear b1_0 b1_1 b1_2 b8_0 b8_1 b8_2 b10_0 b10_1 b10_2 b11_0 b11_1 b11_2
      have HB1 := Lib.hid (HB1.out.q qs)
      have HR1 := Lib.hid (HR1.out.q qs)
      have HB8 := Lib.hid (HB8.out.q qs)
      have HR8 := Lib.hid (HR8.out.q qs)
      have HB10 := Lib.hid (HB10.out.q qs)
      have HR10 := Lib.hid (HR10.out.q qs)
      have HB11 := Lib.hid (HB11.out.q qs)
      have HR11 := Lib.hid (HR11.out.q qs)
      have Hq := Lib.hid (Hq.out.trans qs)
      clear qs
      go_wp2_with fail
      go_ret
      exact ⟨rfl, Hq.out⟩

set_option maxRecDepth 100000 in
theorem lifted (os : Os) (started : os.Started) (H : Type) (enc : TypeId × Value → H) :
    ReturnsInHanded {} Try.checked os 5 .any (Rows.trailSetsSpec.pre6 enc Try.prog Try.f5 Rows.trailSetsRow.domain false) (Rows.trailSetsSpec.post enc Try.prog Try.f5 false true false false) := by
  refine returnsInHanded_of_change_sized (C := Try.checked) own started (by kernel_rfl) Try.func5
    (ChangeSpec.witness6 (enc := enc) (C := Try.checked) false ⟨#[], #[.agg #[.slice none 0 0, .slice none 0 0, .slice none 0 0], .int .i64 0, .int .i64 0], []⟩ 8 (by kernel_rfl) (by kernel_rfl) (by kernel_rfl) (by kernel_rfl)) ?_
  intro W base args ds gs before hval0 hW hcnd hsz0 _
  have hval : ∀ (j : Nat) t v, Try.f5.params[j]? = some t → args[j]? = some v → Value.okWide Try.prog W .any base t v := hval0
  have hW' := hW
  obtain ⟨p, q, hA0, hV, rfl, hfz, hnd⟩ := hW
  have hA : DataW.TrodAll enc Try.prog W 0 (fun _ => true) true Try.f5.params.toList args.toList ds p := hA0
  rw [Try.params5] at hA hval
  obtain ⟨v0, vs0, d0, ds0, p0, q0, hargs, rfl, rfl, h0, r0⟩ := trodAll_cons hA
  obtain ⟨v1, vs1, d1, ds1, p1, q1, rfl, rfl, rfl, h1, r1⟩ := trodAll_cons r0
  obtain ⟨v2, vs2, d2, ds2, p2, q2, rfl, rfl, rfl, h2, r2⟩ := trodAll_cons r1
  obtain ⟨rfl, rfl, rfl⟩ := trodAll_nil r2
  obtain rfl : args = #[v0, v1, v2] := by cases args; simp_all
  obtain ⟨rfl, rfl⟩ := trodVars_none hV
  have z0 : ∀ n ∈ d0.weights Try.prog 44, n ≤ reachBytes := fun n hn => by
    have := List.all_eq_true.1 hsz0 n (DataW.weights_mem_each (j := 0) (t := 44) (d := d0) (by rw [Try.params5]; rfl) rfl n hn)
    simpa using this
  have _z1 : ∀ n ∈ d1.weights Try.prog 3, n ≤ reachBytes := fun n hn => by
    have := List.all_eq_true.1 hsz0 n (DataW.weights_mem_each (j := 1) (t := 3) (d := d1) (by rw [Try.params5]; rfl) rfl n hn)
    simpa using this
  have _z2 : ∀ n ∈ d2.weights Try.prog 3, n ≤ reachBytes := fun n hn => by
    have := List.all_eq_true.1 hsz0 n (DataW.weights_mem_each (j := 2) (t := 3) (d := d2) (by rw [Try.params5]; rfl) rfl n hn)
    simpa using this
  obtain ⟨c, A, n1, k1, D, n2, k2, E, n3, k3, rfl, e1, e2, e3, h, hw⟩ := open_cells (hval 0 44 v0 rfl rfl) h0 z0
  obtain ⟨at_, rfl, _⟩ := open_int Try.underlying3 (hval 1 3 v1 rfl rfl) h1
  obtain ⟨v, rfl, _⟩ := open_int Try.underlying3 (hval 2 3 v2 rfl rfl) h2
  clear hA0 hval0
  refine (walk c A D E n1 k1 n2 k2 n3 k3 at_ v W e1 e2 e3 h hw).mono fun e W' ⟨he, hg⟩ => ?_
  subst he
  exact ⟨_, rfl, post_law laid (by rw [Try.params5]; decide +kernel) rfl rfl (by kernel_rfl) Try.underlying4 hW' hg⟩

/-- THE STATEMENT -/
theorem proved : Rows.TrailSetsSaid :=
  OpenClaim.holds_of_wide 5 Try.f5 rfl rfl rfl rfl rfl rfl rfl ⟨rfl, rfl, rfl, rfl, rfl⟩ rfl rfl rfl rfl rfl (by kernel_rfl) Try.func5 (by kernel_rfl)
    (of_decide_eq_true (by kernel_rfl)) (by unfold Func.isWrapper; first | (rw [if_pos (by decide +kernel)]; kernel_rfl) | (rw [if_neg (by decide +kernel)]; exact ⟨rfl, rfl⟩))
    (fun os started H enc _ => lifted os started H enc)
end Go.Proofs.Ytngdjndekdcdkaa.trailSets
