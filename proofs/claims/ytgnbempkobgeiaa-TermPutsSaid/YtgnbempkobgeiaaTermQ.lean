/-
  Contracts of the document's may and May.
-/
import Derived.Test.YtgnbempkobgeiaaTermO
namespace Go.Proofs.Ytgnbempkobgeiaa.Tm
open Go.RowKit Kit Hs

set_option maxRecDepth 100000 in
set_option maxHeartbeats 2000000 in
theorem refmay_any (L E : Option Addr) (nl cl n c many : Nat) (l : List Sg.Sig) (t : Tm) (w : World) (hnl : nl = l.length) (hr : Sg.Row w w.heap.size L l) (hn : n = t.xs.length) (he : Ints w w.heap.size E t.xs) (hl : t.xs.length ≤ maxLen) :
    Calls Try.prog 44 #[.slice L nl cl, .int .i64 (many : Int), .agg #[.int .i64 t.k, .int .i64 t.s, .int .i64 t.p, .slice E n c]] w fun e w' => e = .returned (.bool (mayB l many t)) ∧ Q w w' := by
  subst hnl
  unfold maxLen at hl
  have q0 := (Q.refl w).alloc (Obj.cells #[.int .i64 t.k, .int .i64 t.s, .int .i64 t.p, .slice E n c] 28)
  have Hr := Lib.hid ((hr.q (Nat.le_refl _) q0).more q0.size)
  have He := Lib.hid ((he.q (Nat.le_refl _) q0).more q0.size)
  have X := Box4.new w (.int .i64 t.k) (.int .i64 t.s) (.int .i64 t.p) (.slice E n c) 28
  have HM : Hid (mayB l many t = (standB l t && hasB l t && allPl t.xs many)) := rfl
  have HN := Lib.hid hn
  rw [← hn] at hl
  clear hr he hn
  go_enter Try.func44, Try.ntmps44
  go_wp2_with fail
  generalize w.alloc (Obj.cells #[.int .i64 t.k, .int .i64 t.s, .int .i64 t.p, .slice E n c] 28) = W0 at *
  have x0 := X.c0
  have x1 := X.c1
  have x2 := X.c2
  have x3 := X.c3
  clear X
  go_loopw [7] (fun i wr => ∃ k : Nat, k ≤ n ∧ i = .int .i64 k ∧ Hid (allPl t.xs many = allPl (t.xs.drop k) many) ∧ W0 = wr) (fun i _ => n - (intOf i).toNat)
  case atStart => exact ⟨0, Nat.zero_le _, rfl, Lib.hid rfl, rfl⟩
  case round =>
    obtain ⟨k, hk, rfl, HF, rfl⟩ := hrel
    by_cases hlt : k < n
    · have hltx : k < t.xs.length := by have := HN.out; omega
      obtain ⟨ad, rfl, hb, c0⟩ := He.out.at_ hltx
      have HS := Lib.hid (allPl_at t.xs many k hltx)
      have HP : Hid (isPl t.xs[k] many = (decide (0 ≤ t.xs[k]) && decide (t.xs[k] < (many : Int)))) := rfl
      by_cases h0 : t.xs[k] < 0
      · have d0 : decide (t.xs[k] < 0) = true := decide_eq_true h0
        have HS' : Hid (allPl (t.xs.drop k) many = false) := by unfold Hid; rw [HS.out, HP.out, decide_eq_false (by omega : ¬ 0 ≤ t.xs[k])]; rfl
        clear h0
        go_wp2_with fail
        go_ret
        exact ⟨by rw [HM.out, HF.out, HS'.out, Bool.and_false]; rfl, q0⟩
      · have d0 : decide (t.xs[k] < 0) = false := decide_eq_false h0
        by_cases h1 : (many : Int) ≤ t.xs[k]
        · have d1 : decide ((many : Int) ≤ t.xs[k]) = true := decide_eq_true h1
          have HS' : Hid (allPl (t.xs.drop k) many = false) := by unfold Hid; rw [HS.out, HP.out, decide_eq_false (by omega : ¬ t.xs[k] < (many : Int)), Bool.and_false]; rfl
          clear h0 h1
          go_wp2_with fail
          go_ret
          exact ⟨by rw [HM.out, HF.out, HS'.out, Bool.and_false]; rfl, q0⟩
        · have d1 : decide ((many : Int) ≤ t.xs[k]) = false := decide_eq_false h1
          have HS' : Hid (allPl (t.xs.drop k) many = allPl (t.xs.drop (k + 1)) many) := by unfold Hid; rw [HS.out, HP.out, decide_eq_true (by omega : 0 ≤ t.xs[k]), decide_eq_true (by omega : t.xs[k] < (many : Int))]; rfl
          clear h0 h1
          go_wp2_with fail
          go_roundw
          case rel => exact ⟨k + 1, by omega, by go_num, Lib.hid (HF.out.trans HS'.out), trivial⟩
          case measure => simp [intOf]; omega
    · have HS := Lib.hid (allPl_end t.xs many k (by have := HN.out; omega))
      have HM2 : Hid (mayB l many t = (standB l t && hasB l t)) := by unfold Hid; rw [HM.out, HF.out, HS.out, Bool.and_true]
      clear HM HF HS He
      go_upto_region 7 with fail
      go_cut [9] (fun f wx => f = .bool (isPl t.s l.length) ∧ W0 = wx)
      case first =>
        by_cases h0 : 0 ≤ t.s
        · have d0 : decide (0 ≤ t.s) = true := decide_eq_true h0
          go_wp2_with fail
          all_goals go_meet
          all_goals exact ⟨congrArg Value.bool (by unfold isPl; rw [decide_eq_true h0]; rfl), rfl⟩
        · have d0 : decide (0 ≤ t.s) = false := decide_eq_false h0
          clear h0
          go_wp2_with fail
          all_goals go_meet
          all_goals exact ⟨congrArg Value.bool (by unfold isPl; rw [d0]; rfl), rfl⟩
      case rest =>
        obtain ⟨rfl, rfl⟩ := hcut
        have hA : ∀ (i : Nat), t.s = (i : Int) → i < l.length → ∃ ad, L = some ad ∧ W0.cell? ⟨(ad.add (i * 2)).block, (ad.add (i * 2)).off + 1, none⟩ = some (.string (l[i]?.getD (ByteArray.empty, ByteArray.empty)).2) := fun i _ hi => by
          obtain ⟨ad, e, _, _, c1⟩ := Hr.out.at_ hi
          exact ⟨ad, e, by rw [List.getElem?_eq_getElem hi]; exact c1⟩
        have HA := Lib.hid hA
        have HN' : Hid ((t.xs.length : Int) = (n : Int)) := by unfold Hid; rw [HN.out]
        clear hA Hr hlt hk HN
        by_cases k0 : t.k = 0
        · have f0 : (t.k == 0) = true := by simpa using k0
          have HK : Hid (standB l t = ((t.s == 0) && (t.p == 0))) := by unfold Hid standB; rw [if_neg (by omega), if_neg (by omega), if_neg (by omega)]
          have HH : Hid (hasB l t = ((n : Int) == 0)) := by unfold Hid hasB; rw [if_neg (by omega), HN'.out, k0]; rfl
          clear k0 HA
          cases s0 : (t.s == 0)
          · have HR : Hid (mayB l many t = false) := by unfold Hid; rw [HM2.out, HK.out, s0]; rfl
            go_wp2_with fail
            go_ret
            exact ⟨by rw [HR.out]; rfl, q0⟩
          · cases p0 : (t.p == 0)
            · have HR : Hid (mayB l many t = false) := by unfold Hid; rw [HM2.out, HK.out, s0, p0]; rfl
              go_wp2_with fail
              go_ret
              exact ⟨by rw [HR.out]; rfl, q0⟩
            · have HR : Hid (mayB l many t = ((n : Int) == 0)) := by unfold Hid; rw [HM2.out, HK.out, HH.out, s0, p0]; rfl
              go_wp2_with fail
              go_ret
              exact ⟨by rw [HR.out]; first | rfl | simp, q0⟩
        have f0 : (t.k == 0) = false := by simpa using k0
        by_cases k1 : t.k = 1
        · have f1 : (t.k == 1) = true := by simpa using k1
          have HK : Hid (standB l t = ((t.s == 0) && (t.p == 0))) := by unfold Hid standB; rw [if_neg (by omega), if_neg (by omega), if_neg (by omega)]
          have HH : Hid (hasB l t = ((n : Int) == 0)) := by unfold Hid hasB; rw [if_neg (by omega), HN'.out, k1]; rfl
          clear k0 k1 HA
          cases s0 : (t.s == 0)
          · have HR : Hid (mayB l many t = false) := by unfold Hid; rw [HM2.out, HK.out, s0]; rfl
            go_wp2_with fail
            go_ret
            exact ⟨by rw [HR.out]; rfl, q0⟩
          · cases p0 : (t.p == 0)
            · have HR : Hid (mayB l many t = false) := by unfold Hid; rw [HM2.out, HK.out, s0, p0]; rfl
              go_wp2_with fail
              go_ret
              exact ⟨by rw [HR.out]; rfl, q0⟩
            · have HR : Hid (mayB l many t = ((n : Int) == 0)) := by unfold Hid; rw [HM2.out, HK.out, HH.out, s0, p0]; rfl
              go_wp2_with fail
              go_ret
              exact ⟨by rw [HR.out]; first | rfl | simp, q0⟩
        have f1 : (t.k == 1) = false := by simpa using k1
        by_cases k2 : t.k = 2
        · have f2 : (t.k == 2) = true := by simpa using k2
          have HK : Hid (standB l t = (decide (0 ≤ t.s) && (t.p == 0))) := by unfold Hid standB; rw [if_pos k2]
          have HH : Hid (hasB l t = ((n : Int) == 0)) := by unfold Hid hasB; rw [if_neg (by omega), HN'.out, k2]; rfl
          clear k0 k1 k2 HA
          cases s0 : decide (0 ≤ t.s)
          · have HR : Hid (mayB l many t = false) := by unfold Hid; rw [HM2.out, HK.out, s0]; rfl
            go_wp2_with fail
            go_ret
            exact ⟨by rw [HR.out]; rfl, q0⟩
          · cases p0 : (t.p == 0)
            · have HR : Hid (mayB l many t = false) := by unfold Hid; rw [HM2.out, HK.out, s0, p0]; rfl
              go_wp2_with fail
              go_ret
              exact ⟨by rw [HR.out]; rfl, q0⟩
            · have HR : Hid (mayB l many t = ((n : Int) == 0)) := by unfold Hid; rw [HM2.out, HK.out, HH.out, s0, p0]; rfl
              go_wp2_with fail
              go_ret
              exact ⟨by rw [HR.out]; first | rfl | simp, q0⟩
        have f2 : (t.k == 2) = false := by simpa using k2
        by_cases k3 : t.k = 3
        · have f3 : (t.k == 3) = true := by simpa using k3
          have HK : Hid (standB l t = (isPl t.s l.length && (t.p == 0))) := by unfold Hid standB; rw [if_neg (by omega), if_pos k3]
          have HH : Hid (hasB l t = ((n : Int) == arity l t.s)) := by unfold Hid hasB; rw [if_pos k3, HN'.out]
          clear k0 k1 k2 k3
          cases s0 : isPl t.s l.length
          · have HR : Hid (mayB l many t = false) := by unfold Hid; rw [HM2.out, HK.out, s0]; rfl
            go_wp2_with fail
            go_ret
            exact ⟨by rw [HR.out]; rfl, q0⟩
          · cases p0 : (t.p == 0)
            · have HR : Hid (mayB l many t = false) := by unfold Hid; rw [HM2.out, HK.out, s0, p0]; rfl
              go_wp2_with fail
              go_ret
              exact ⟨by rw [HR.out]; rfl, q0⟩
            · have HR : Hid (mayB l many t = ((n : Int) == arity l t.s)) := by unfold Hid; rw [HM2.out, HK.out, HH.out, s0, p0]; rfl
              obtain ⟨h0, h1⟩ := (isPl_iff _ _).1 s0
              obtain ⟨i, hi⟩ := Int.eq_ofNat_of_zero_le h0
              have hli : i < l.length := by omega
              obtain ⟨ad, rfl, c1⟩ := HA.out i hi hli
              rw [List.getElem?_eq_getElem hli, Option.getD_some] at c1
              have HE : Hid (mayB l many t = ((n : Int) == (l[i].2.size : Int))) := by unfold Hid; rw [HR.out, hi, arity_at hli]
              rw [hi] at x1 h0 h1 s0
              clear hi
              go_wp2_with fail
              go_ret
              exact ⟨by rw [HE.out]; first | rfl | simp, q0⟩
        have f3 : (t.k == 3) = false := by simpa using k3
        by_cases k4 : t.k = 4
        · have f4 : (t.k == 4) = true := by simpa using k4
          have HK : Hid (standB l t = ((t.s == 0) && (t.p == 0))) := by unfold Hid standB; rw [if_neg (by omega), if_neg (by omega), if_neg (by omega)]
          have HH : Hid (hasB l t = ((n : Int) == 2)) := by unfold Hid hasB; rw [if_neg (by omega), HN'.out, k4]; rfl
          clear k0 k1 k2 k3 k4 HA
          cases s0 : (t.s == 0)
          · have HR : Hid (mayB l many t = false) := by unfold Hid; rw [HM2.out, HK.out, s0]; rfl
            go_wp2_with fail
            go_ret
            exact ⟨by rw [HR.out]; rfl, q0⟩
          · cases p0 : (t.p == 0)
            · have HR : Hid (mayB l many t = false) := by unfold Hid; rw [HM2.out, HK.out, s0, p0]; rfl
              go_wp2_with fail
              go_ret
              exact ⟨by rw [HR.out]; rfl, q0⟩
            · have HR : Hid (mayB l many t = ((n : Int) == 2)) := by unfold Hid; rw [HM2.out, HK.out, HH.out, s0, p0]; rfl
              go_wp2_with fail
              go_ret
              exact ⟨by rw [HR.out]; first | rfl | simp, q0⟩
        have f4 : (t.k == 4) = false := by simpa using k4
        by_cases k5 : t.k = 5
        · have f5 : (t.k == 5) = true := by simpa using k5
          have HK : Hid (standB l t = ((t.s == 0) && (t.p == 0))) := by unfold Hid standB; rw [if_neg (by omega), if_neg (by omega), if_neg (by omega)]
          have HH : Hid (hasB l t = ((n : Int) == 2)) := by unfold Hid hasB; rw [if_neg (by omega), HN'.out, k5]; rfl
          clear k0 k1 k2 k3 k4 k5 HA
          cases s0 : (t.s == 0)
          · have HR : Hid (mayB l many t = false) := by unfold Hid; rw [HM2.out, HK.out, s0]; rfl
            go_wp2_with fail
            go_ret
            exact ⟨by rw [HR.out]; rfl, q0⟩
          · cases p0 : (t.p == 0)
            · have HR : Hid (mayB l many t = false) := by unfold Hid; rw [HM2.out, HK.out, s0, p0]; rfl
              go_wp2_with fail
              go_ret
              exact ⟨by rw [HR.out]; rfl, q0⟩
            · have HR : Hid (mayB l many t = ((n : Int) == 2)) := by unfold Hid; rw [HM2.out, HK.out, HH.out, s0, p0]; rfl
              go_wp2_with fail
              go_ret
              exact ⟨by rw [HR.out]; first | rfl | simp, q0⟩
        have f5 : (t.k == 5) = false := by simpa using k5
        by_cases k6 : t.k = 6
        · have f6 : (t.k == 6) = true := by simpa using k6
          have HK : Hid (standB l t = (isPl t.s l.length && isPl t.p (arity l t.s))) := by unfold Hid standB; rw [if_neg (by omega), if_neg (by omega), if_pos k6]
          have HH : Hid (hasB l t = ((n : Int) == 1)) := by unfold Hid hasB; rw [if_neg (by omega), HN'.out, k6]; rfl
          clear k0 k1 k2 k3 k4 k5 k6
          cases s0 : isPl t.s l.length
          · have HR : Hid (mayB l many t = false) := by unfold Hid; rw [HM2.out, HK.out, s0]; rfl
            go_wp2_with fail
            go_quiet (fail)
            go_wp2_with fail
            go_ret
            exact ⟨by rw [HR.out]; rfl, q0.drewN _⟩
          · obtain ⟨h0, h1⟩ := (isPl_iff _ _).1 s0
            obtain ⟨i, hi⟩ := Int.eq_ofNat_of_zero_le h0
            have hli : i < l.length := by omega
            obtain ⟨ad, rfl, c1⟩ := HA.out i hi hli
            rw [List.getElem?_eq_getElem hli, Option.getD_some] at c1
            have HE : Hid (mayB l many t = (isPl t.p (l[i].2.size : Int) && ((n : Int) == 1))) := by unfold Hid; rw [HM2.out, HK.out, HH.out, s0, hi, arity_at hli]; rfl
            rw [hi] at x1 h0 h1 s0
            clear hi
            by_cases p0 : 0 ≤ t.p
            · have d0 : decide (0 ≤ t.p) = true := decide_eq_true p0
              cases p1 : decide (t.p < (l[i].2.size : Int))
              · have HR : Hid (mayB l many t = false) := by unfold Hid; rw [HE.out, isPl, p1, Bool.and_false]; rfl
                clear p0
                go_wp2_with fail
                go_quiet (fail)
                go_wp2_with fail
                go_ret
                exact ⟨by rw [HR.out]; rfl, q0.drewN _⟩
              · have HR : Hid (mayB l many t = ((n : Int) == 1)) := by unfold Hid; rw [HE.out, isPl, p1, d0]; rfl
                clear p0
                go_wp2_with fail
                go_quiet (fail)
                go_wp2_with fail
                go_ret
                exact ⟨by rw [HR.out]; first | rfl | simp, q0.drewN _⟩
            · have d0 : decide (0 ≤ t.p) = false := decide_eq_false p0
              have HR : Hid (mayB l many t = false) := by unfold Hid; rw [HE.out, isPl, d0]; rfl
              clear p0
              go_wp2_with fail
              go_quiet (fail)
              go_wp2_with fail
              go_ret
              exact ⟨by rw [HR.out]; rfl, q0.drewN _⟩
        have f6 : (t.k == 6) = false := by simpa using k6
        have HR : Hid (mayB l many t = false) := by
          unfold Hid
          rw [HM2.out, hasB, if_neg k3, isKindB, f0, f1, f2, f4, f5, f6]
          exact Bool.and_false _
        clear k0 k1 k2 k3 k4 k5 k6 HA
        go_wp2_with fail
        go_ret
        exact ⟨by rw [HR.out]; rfl, q0⟩

set_option maxRecDepth 100000 in
set_option maxHeartbeats 1000000 in
theorem refMay_any (L A S E : Option Addr) (nl cl na ca m d n c : Nat) (l : List Sg.Sig) (t : Tm) (w : World) (hnl : nl = l.length) (hr : Sg.Row w w.heap.size L l) (hn : n = t.xs.length) (he : Ints w w.heap.size E t.xs) (hl : t.xs.length ≤ maxLen) :
    Calls Try.prog 31 #[.slice L nl cl, .agg #[.slice A na ca, .slice S m d], .agg #[.int .i64 t.k, .int .i64 t.s, .int .i64 t.p, .slice E n c]] w fun e w' => e = .returned (.bool (mayB l na t)) ∧ Q w w' := by
  subst hnl
  have q0 := ((Q.refl w).alloc (Obj.cells #[Value.slice A na ca, Value.slice S m d] 26)).alloc (Obj.cells #[.int .i64 t.k, .int .i64 t.s, .int .i64 t.p, .slice E n c] 28)
  have Hr := Lib.hid ((hr.q (Nat.le_refl _) q0).more q0.size)
  have He := Lib.hid ((he.q (Nat.le_refl _) q0).more q0.size)
  have Hn := Lib.hid hn
  clear hr he hn
  go_enter Try.func31, Try.ntmps31
  go_wp2_with fail
  refine (refmay_any _ _ _ _ _ _ _ l t _ rfl Hr.out Hn.out He.out hl).mono ?_
  rintro e w1 ⟨rfl, q1⟩
  go_wp2_with fail
  go_ret
  exact ⟨rfl, q0.trans q1⟩
end Go.Proofs.Ytgnbempkobgeiaa.Tm
