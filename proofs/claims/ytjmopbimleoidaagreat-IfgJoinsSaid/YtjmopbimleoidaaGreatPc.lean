/-
  What the proofs lean on, part 3 of 12.
-/
import Derived.Test.YtjmopbimleoidaaGreatPa
import Derived.Test.YtjmopbimleoidaaGreatPb
import Derived.Deep.SlicePairs
import Derived.Lib.SmallJoins
import Derived.OwnWalk
import Derived.Laws.CopyOwn
import Derived.Laws.MakeOwn
import Derived.Laws.OwnMore
import Derived.Outline
import Derived.Laws.Append
import Derived.Laws.StructEq
import Derived.Deep.RegionHeld
import Derived.Deep.RegionHeld3
namespace Go.Proofs.YtjmopbimleoidaaGreat.Tm
open Go.RowKit Kit Hs

set_option maxRecDepth 100000 in
set_option maxHeartbeats 2000000 in
theorem refmay_any (L E : Option Addr) (nl cl n c many : Nat) (l : List Sg.Sig) (t : Tm) (w : World) (hnl : nl = l.length) (hr : Sg.Row w w.heap.size L l) (hn : n = t.xs.length) (he : Ints w w.heap.size E t.xs) (hl : t.xs.length ≤ maxLen) :
    Calls Tryz.prog 79 #[.slice L nl cl, .int .i64 (many : Int), .agg #[.int .i64 t.k, .int .i64 t.s, .int .i64 t.p, .slice E n c]] w fun e w' => e = .returned (.bool (mayB l many t)) ∧ Q w w' := by
  subst hnl
  unfold maxLen at hl
  have q0 := (Q.refl w).alloc (Obj.cells #[.int .i64 t.k, .int .i64 t.s, .int .i64 t.p, .slice E n c] 107)
  have Hr := Lib.hid ((hr.q (Nat.le_refl _) q0).more q0.size)
  have He := Lib.hid ((he.q (Nat.le_refl _) q0).more q0.size)
  have X := Box4.new w (.int .i64 t.k) (.int .i64 t.s) (.int .i64 t.p) (.slice E n c) 107
  have HM : Hid (mayB l many t = (standB l t && hasB l t && allPl t.xs many)) := rfl
  have HN := Lib.hid hn
  rw [← hn] at hl
  clear hr he hn
  go_enter Tryz.func79, Tryz.ntmps79
  go_wp2_with fail
  generalize w.alloc (Obj.cells #[.int .i64 t.k, .int .i64 t.s, .int .i64 t.p, .slice E n c] 107) = W0 at *
  have x0 := X.c0
  have x1 := X.c1
  have x2 := X.c2
  have x3 := X.c3
  clear X
  go_loopw [7] (fun i wr => ∃ k : Nat, k ≤ n ∧ i = .int .i64 k ∧ Hid (allPl t.xs many = allPl (t.xs.drop k) many) ∧ W0 = wr) (fun i _ => n - (intOf i).toNat)
  case atStart => exact ⟨0, Nat.zero_le _, rfl, Lib.hid rfl, rfl⟩
  case round =>
    obtain ⟨k, hk, rfl, HF, rfl⟩ := hrel
    by_cases hlt : k < n
    · have hltx : k < t.xs.length := by have := HN.out; omega
      obtain ⟨ad, rfl, hb, c0⟩ := He.out.at_ hltx
      have HS := Lib.hid (allPl_at t.xs many k hltx)
      have HP : Hid (isPl t.xs[k] many = (decide (0 ≤ t.xs[k]) && decide (t.xs[k] < (many : Int)))) := rfl
      by_cases h0 : t.xs[k] < 0
      · have d0 : decide (t.xs[k] < 0) = true := decide_eq_true h0
        have HS' : Hid (allPl (t.xs.drop k) many = false) := by unfold Hid; rw [HS.out, HP.out, decide_eq_false (by omega : ¬ 0 ≤ t.xs[k])]; rfl
        clear h0
        go_wp2_with fail
        go_ret
        exact ⟨by rw [HM.out, HF.out, HS'.out, Bool.and_false]; rfl, q0⟩
      · have d0 : decide (t.xs[k] < 0) = false := decide_eq_false h0
        by_cases h1 : (many : Int) ≤ t.xs[k]
        · have d1 : decide ((many : Int) ≤ t.xs[k]) = true := decide_eq_true h1
          have HS' : Hid (allPl (t.xs.drop k) many = false) := by unfold Hid; rw [HS.out, HP.out, decide_eq_false (by omega : ¬ t.xs[k] < (many : Int)), Bool.and_false]; rfl
          clear h0 h1
          go_wp2_with fail
          go_ret
          exact ⟨by rw [HM.out, HF.out, HS'.out, Bool.and_false]; rfl, q0⟩
        · have d1 : decide ((many : Int) ≤ t.xs[k]) = false := decide_eq_false h1
          have HS' : Hid (allPl (t.xs.drop k) many = allPl (t.xs.drop (k + 1)) many) := by unfold Hid; rw [HS.out, HP.out, decide_eq_true (by omega : 0 ≤ t.xs[k]), decide_eq_true (by omega : t.xs[k] < (many : Int))]; rfl
          clear h0 h1
          go_wp2_with fail
          go_roundw
          case rel => exact ⟨k + 1, by omega, by go_num, Lib.hid (HF.out.trans HS'.out), trivial⟩
          case measure => simp [intOf]; omega
    · have HS := Lib.hid (allPl_end t.xs many k (by have := HN.out; omega))
      have HM2 : Hid (mayB l many t = (standB l t && hasB l t)) := by unfold Hid; rw [HM.out, HF.out, HS.out, Bool.and_true]
      clear HM HF HS He
      go_upto_region 7 with fail
      go_cut [9] (fun f wx => f = .bool (isPl t.s l.length) ∧ W0 = wx)
      case first =>
        by_cases h0 : 0 ≤ t.s
        · have d0 : decide (0 ≤ t.s) = true := decide_eq_true h0
          go_wp2_with fail
          all_goals go_meet
          all_goals exact ⟨congrArg Value.bool (by unfold isPl; rw [decide_eq_true h0]; rfl), rfl⟩
        · have d0 : decide (0 ≤ t.s) = false := decide_eq_false h0
          clear h0
          go_wp2_with fail
          all_goals go_meet
          all_goals exact ⟨congrArg Value.bool (by unfold isPl; rw [d0]; rfl), rfl⟩
      case rest =>
        obtain ⟨rfl, rfl⟩ := hcut
        have hA : ∀ (i : Nat), t.s = (i : Int) → i < l.length → ∃ ad, L = some ad ∧ W0.cell? ⟨(ad.add (i * 2)).block, (ad.add (i * 2)).off + 1, none⟩ = some (.string (l[i]?.getD (ByteArray.empty, ByteArray.empty)).2) := fun i _ hi => by
          obtain ⟨ad, e, _, _, c1⟩ := Hr.out.at_ hi
          exact ⟨ad, e, by rw [List.getElem?_eq_getElem hi]; exact c1⟩
        have HA := Lib.hid hA
        have HN' : Hid ((t.xs.length : Int) = (n : Int)) := by unfold Hid; rw [HN.out]
        clear hA Hr hlt hk HN
        by_cases k0 : t.k = 0
        · have f0 : (t.k == 0) = true := by simpa using k0
          have HK : Hid (standB l t = ((t.s == 0) && (t.p == 0))) := by unfold Hid standB; rw [if_neg (by omega), if_neg (by omega), if_neg (by omega)]
          have HH : Hid (hasB l t = ((n : Int) == 0)) := by unfold Hid hasB; rw [if_neg (by omega), HN'.out, k0]; rfl
          clear k0 HA
          cases s0 : (t.s == 0)
          · have HR : Hid (mayB l many t = false) := by unfold Hid; rw [HM2.out, HK.out, s0]; rfl
            go_wp2_with fail
            go_ret
            exact ⟨by rw [HR.out]; rfl, q0⟩
          · cases p0 : (t.p == 0)
            · have HR : Hid (mayB l many t = false) := by unfold Hid; rw [HM2.out, HK.out, s0, p0]; rfl
              go_wp2_with fail
              go_ret
              exact ⟨by rw [HR.out]; rfl, q0⟩
            · have HR : Hid (mayB l many t = ((n : Int) == 0)) := by unfold Hid; rw [HM2.out, HK.out, HH.out, s0, p0]; rfl
              go_wp2_with fail
              go_ret
              exact ⟨by rw [HR.out]; first | rfl | simp, q0⟩
        have f0 : (t.k == 0) = false := by simpa using k0
        by_cases k1 : t.k = 1
        · have f1 : (t.k == 1) = true := by simpa using k1
          have HK : Hid (standB l t = ((t.s == 0) && (t.p == 0))) := by unfold Hid standB; rw [if_neg (by omega), if_neg (by omega), if_neg (by omega)]
          have HH : Hid (hasB l t = ((n : Int) == 0)) := by unfold Hid hasB; rw [if_neg (by omega), HN'.out, k1]; rfl
          clear k0 k1 HA
          cases s0 : (t.s == 0)
          · have HR : Hid (mayB l many t = false) := by unfold Hid; rw [HM2.out, HK.out, s0]; rfl
            go_wp2_with fail
            go_ret
            exact ⟨by rw [HR.out]; rfl, q0⟩
          · cases p0 : (t.p == 0)
            · have HR : Hid (mayB l many t = false) := by unfold Hid; rw [HM2.out, HK.out, s0, p0]; rfl
              go_wp2_with fail
              go_ret
              exact ⟨by rw [HR.out]; rfl, q0⟩
            · have HR : Hid (mayB l many t = ((n : Int) == 0)) := by unfold Hid; rw [HM2.out, HK.out, HH.out, s0, p0]; rfl
              go_wp2_with fail
              go_ret
              exact ⟨by rw [HR.out]; first | rfl | simp, q0⟩
        have f1 : (t.k == 1) = false := by simpa using k1
        by_cases k2 : t.k = 2
        · have f2 : (t.k == 2) = true := by simpa using k2
          have HK : Hid (standB l t = (decide (0 ≤ t.s) && (t.p == 0))) := by unfold Hid standB; rw [if_pos k2]
          have HH : Hid (hasB l t = ((n : Int) == 0)) := by unfold Hid hasB; rw [if_neg (by omega), HN'.out, k2]; rfl
          clear k0 k1 k2 HA
          cases s0 : decide (0 ≤ t.s)
          · have HR : Hid (mayB l many t = false) := by unfold Hid; rw [HM2.out, HK.out, s0]; rfl
            go_wp2_with fail
            go_ret
            exact ⟨by rw [HR.out]; rfl, q0⟩
          · cases p0 : (t.p == 0)
            · have HR : Hid (mayB l many t = false) := by unfold Hid; rw [HM2.out, HK.out, s0, p0]; rfl
              go_wp2_with fail
              go_ret
              exact ⟨by rw [HR.out]; rfl, q0⟩
            · have HR : Hid (mayB l many t = ((n : Int) == 0)) := by unfold Hid; rw [HM2.out, HK.out, HH.out, s0, p0]; rfl
              go_wp2_with fail
              go_ret
              exact ⟨by rw [HR.out]; first | rfl | simp, q0⟩
        have f2 : (t.k == 2) = false := by simpa using k2
        by_cases k3 : t.k = 3
        · have f3 : (t.k == 3) = true := by simpa using k3
          have HK : Hid (standB l t = (isPl t.s l.length && (t.p == 0))) := by unfold Hid standB; rw [if_neg (by omega), if_pos k3]
          have HH : Hid (hasB l t = ((n : Int) == arity l t.s)) := by unfold Hid hasB; rw [if_pos k3, HN'.out]
          clear k0 k1 k2 k3
          cases s0 : isPl t.s l.length
          · have HR : Hid (mayB l many t = false) := by unfold Hid; rw [HM2.out, HK.out, s0]; rfl
            go_wp2_with fail
            go_ret
            exact ⟨by rw [HR.out]; rfl, q0⟩
          · cases p0 : (t.p == 0)
            · have HR : Hid (mayB l many t = false) := by unfold Hid; rw [HM2.out, HK.out, s0, p0]; rfl
              go_wp2_with fail
              go_ret
              exact ⟨by rw [HR.out]; rfl, q0⟩
            · have HR : Hid (mayB l many t = ((n : Int) == arity l t.s)) := by unfold Hid; rw [HM2.out, HK.out, HH.out, s0, p0]; rfl
              obtain ⟨h0, h1⟩ := (isPl_iff _ _).1 s0
              obtain ⟨i, hi⟩ := Int.eq_ofNat_of_zero_le h0
              have hli : i < l.length := by omega
              obtain ⟨ad, rfl, c1⟩ := HA.out i hi hli
              rw [List.getElem?_eq_getElem hli, Option.getD_some] at c1
              have HE : Hid (mayB l many t = ((n : Int) == (l[i].2.size : Int))) := by unfold Hid; rw [HR.out, hi, arity_at hli]
              rw [hi] at x1 h0 h1 s0
              clear hi
              go_wp2_with fail
              go_ret
              exact ⟨by rw [HE.out]; first | rfl | simp, q0⟩
        have f3 : (t.k == 3) = false := by simpa using k3
        by_cases k4 : t.k = 4
        · have f4 : (t.k == 4) = true := by simpa using k4
          have HK : Hid (standB l t = ((t.s == 0) && (t.p == 0))) := by unfold Hid standB; rw [if_neg (by omega), if_neg (by omega), if_neg (by omega)]
          have HH : Hid (hasB l t = ((n : Int) == 2)) := by unfold Hid hasB; rw [if_neg (by omega), HN'.out, k4]; rfl
          clear k0 k1 k2 k3 k4 HA
          cases s0 : (t.s == 0)
          · have HR : Hid (mayB l many t = false) := by unfold Hid; rw [HM2.out, HK.out, s0]; rfl
            go_wp2_with fail
            go_ret
            exact ⟨by rw [HR.out]; rfl, q0⟩
          · cases p0 : (t.p == 0)
            · have HR : Hid (mayB l many t = false) := by unfold Hid; rw [HM2.out, HK.out, s0, p0]; rfl
              go_wp2_with fail
              go_ret
              exact ⟨by rw [HR.out]; rfl, q0⟩
            · have HR : Hid (mayB l many t = ((n : Int) == 2)) := by unfold Hid; rw [HM2.out, HK.out, HH.out, s0, p0]; rfl
              go_wp2_with fail
              go_ret
              exact ⟨by rw [HR.out]; first | rfl | simp, q0⟩
        have f4 : (t.k == 4) = false := by simpa using k4
        by_cases k5 : t.k = 5
        · have f5 : (t.k == 5) = true := by simpa using k5
          have HK : Hid (standB l t = ((t.s == 0) && (t.p == 0))) := by unfold Hid standB; rw [if_neg (by omega), if_neg (by omega), if_neg (by omega)]
          have HH : Hid (hasB l t = ((n : Int) == 2)) := by unfold Hid hasB; rw [if_neg (by omega), HN'.out, k5]; rfl
          clear k0 k1 k2 k3 k4 k5 HA
          cases s0 : (t.s == 0)
          · have HR : Hid (mayB l many t = false) := by unfold Hid; rw [HM2.out, HK.out, s0]; rfl
            go_wp2_with fail
            go_ret
            exact ⟨by rw [HR.out]; rfl, q0⟩
          · cases p0 : (t.p == 0)
            · have HR : Hid (mayB l many t = false) := by unfold Hid; rw [HM2.out, HK.out, s0, p0]; rfl
              go_wp2_with fail
              go_ret
              exact ⟨by rw [HR.out]; rfl, q0⟩
            · have HR : Hid (mayB l many t = ((n : Int) == 2)) := by unfold Hid; rw [HM2.out, HK.out, HH.out, s0, p0]; rfl
              go_wp2_with fail
              go_ret
              exact ⟨by rw [HR.out]; first | rfl | simp, q0⟩
        have f5 : (t.k == 5) = false := by simpa using k5
        by_cases k6 : t.k = 6
        · have f6 : (t.k == 6) = true := by simpa using k6
          have HK : Hid (standB l t = (isPl t.s l.length && isPl t.p (arity l t.s))) := by unfold Hid standB; rw [if_neg (by omega), if_neg (by omega), if_pos k6]
          have HH : Hid (hasB l t = ((n : Int) == 1)) := by unfold Hid hasB; rw [if_neg (by omega), HN'.out, k6]; rfl
          clear k0 k1 k2 k3 k4 k5 k6
          cases s0 : isPl t.s l.length
          · have HR : Hid (mayB l many t = false) := by unfold Hid; rw [HM2.out, HK.out, s0]; rfl
            go_wp2_with fail
            go_quiet (fail)
            go_wp2_with fail
            go_ret
            exact ⟨by rw [HR.out]; rfl, q0.drewN _⟩
          · obtain ⟨h0, h1⟩ := (isPl_iff _ _).1 s0
            obtain ⟨i, hi⟩ := Int.eq_ofNat_of_zero_le h0
            have hli : i < l.length := by omega
            obtain ⟨ad, rfl, c1⟩ := HA.out i hi hli
            rw [List.getElem?_eq_getElem hli, Option.getD_some] at c1
            have HE : Hid (mayB l many t = (isPl t.p (l[i].2.size : Int) && ((n : Int) == 1))) := by unfold Hid; rw [HM2.out, HK.out, HH.out, s0, hi, arity_at hli]; rfl
            rw [hi] at x1 h0 h1 s0
            clear hi
            by_cases p0 : 0 ≤ t.p
            · have d0 : decide (0 ≤ t.p) = true := decide_eq_true p0
              cases p1 : decide (t.p < (l[i].2.size : Int))
              · have HR : Hid (mayB l many t = false) := by unfold Hid; rw [HE.out, isPl, p1, Bool.and_false]; rfl
                clear p0
                go_wp2_with fail
                go_quiet (fail)
                go_wp2_with fail
                go_ret
                exact ⟨by rw [HR.out]; rfl, q0.drewN _⟩
              · have HR : Hid (mayB l many t = ((n : Int) == 1)) := by unfold Hid; rw [HE.out, isPl, p1, d0]; rfl
                clear p0
                go_wp2_with fail
                go_quiet (fail)
                go_wp2_with fail
                go_ret
                exact ⟨by rw [HR.out]; first | rfl | simp, q0.drewN _⟩
            · have d0 : decide (0 ≤ t.p) = false := decide_eq_false p0
              have HR : Hid (mayB l many t = false) := by unfold Hid; rw [HE.out, isPl, d0]; rfl
              clear p0
              go_wp2_with fail
              go_quiet (fail)
              go_wp2_with fail
              go_ret
              exact ⟨by rw [HR.out]; rfl, q0.drewN _⟩
        have f6 : (t.k == 6) = false := by simpa using k6
        have HR : Hid (mayB l many t = false) := by
          unfold Hid
          rw [HM2.out, hasB, if_neg k3, isKindB, f0, f1, f2, f4, f5, f6]
          exact Bool.and_false _
        clear k0 k1 k2 k3 k4 k5 k6 HA
        go_wp2_with fail
        go_ret
        exact ⟨by rw [HR.out]; rfl, q0⟩

end Go.Proofs.YtjmopbimleoidaaGreat.Tm

namespace Go.Proofs.YtjmopbimleoidaaGreat.Tm
open Go.RowKit Kit Hs

def keyOk (l : List Sg.Sig) (key : List Int) (i : Nat) : Bool := decide (3 ≤ key.length) && mayB l i (ofKey key) && !(decide (i < 2) && ((ofKey key).k != (i : Int)))
def stF (l : List Sg.Sig) : List (List Int) → Nat → Bool
  | [], _ => true
  | k :: r, i => keyOk l k i && stF l r (i + 1)
def storeB (l : List Sg.Sig) (ks : List (List Int)) (sl : List Int) : Bool := rightB ks sl && decide (2 ≤ ks.length) && stF l ks 0
theorem stF_at (l : List Sg.Sig) (ks : List (List Int)) (i : Nat) (h : i < ks.length) : stF l (ks.drop i) i = (keyOk l ks[i] i && stF l (ks.drop (i + 1)) (i + 1)) := by
  rw [List.drop_eq_getElem_cons h]; rfl
theorem stF_end (l : List Sg.Sig) (ks : List (List Int)) (i : Nat) (h : ks.length ≤ i) : stF l (ks.drop i) i = true := by
  rw [List.drop_eq_nil_of_le h]; rfl
theorem stF_get {l : List Sg.Sig} : ∀ {ks : List (List Int)} {j : Nat}, stF l ks j = true → ∀ (i : Nat) (key : List Int), ks[i]? = some key → keyOk l key (j + i) = true
  | [], _, _, i, key, h => by simp at h
  | k :: r, j, h, i, key, hk => by
    simp only [stF, Bool.and_eq_true] at h
    cases i with
    | zero => obtain rfl : k = key := by simpa using hk
              exact h.1
    | succ i => have := stF_get h.2 i key (by simpa using hk)
                rwa [show j + 1 + i = j + (i + 1) by omega] at this
theorem stF_of {l : List Sg.Sig} : ∀ {ks : List (List Int)} {j : Nat}, (∀ (i : Nat) (key : List Int), ks[i]? = some key → keyOk l key (j + i) = true) → stF l ks j = true
  | [], _, _ => rfl
  | k :: r, j, h => by
    simp only [stF, Bool.and_eq_true]
    refine ⟨h 0 k rfl, stF_of fun i key hk => ?_⟩
    have := h (i + 1) key (by simpa using hk)
    rwa [show j + (i + 1) = j + 1 + i by omega] at this
/-- a store -/
structure Store (l : List Sg.Sig) (ks : List (List Int)) : Prop where
  dist : Dist ks
  two : 2 ≤ ks.length
  ok : ∀ (i : Nat) (key : List Int), ks[i]? = some key → keyOk l key i = true
theorem store_iff (l : List Sg.Sig) (ks : List (List Int)) (sl : List Int) : storeB l ks sl = true ↔ Store l ks ∧ sl = layI ks := by
  unfold storeB
  rw [Bool.and_eq_true, Bool.and_eq_true, decide_eq_true_eq, right_iff]
  constructor
  · rintro ⟨⟨⟨h1, h2⟩, h3⟩, h4⟩
    exact ⟨⟨h1, h3, fun i key hk => by have := stF_get h4 i key hk; rwa [Nat.zero_add] at this⟩, h2⟩
  · rintro ⟨⟨h1, h3, h4⟩, h2⟩
    exact ⟨⟨⟨h1, h2⟩, h3⟩, stF_of fun i key hk => by rw [Nat.zero_add]; exact h4 i key hk⟩
theorem ofKey_at {key : List Int} (h3 : 3 ≤ key.length) : ofKey key = ⟨key[0], key[1], key[2], key.drop 3⟩ := by
  have h0 : 0 < key.length := by omega
  have h1 : 1 < key.length := by omega
  have h2 : 2 < key.length := by omega
  simp [ofKey, h0, h1, h2]

set_option maxRecDepth 100000 in
set_option maxHeartbeats 2000000 in
theorem refRight3_any (L A S : Option Addr) (nl cl n c m d : Nat) (l : List Sg.Sig) (ks : List (List Int)) (sl : List Int) (w : World) (hnl : nl = l.length) (hr : Sg.Row w w.heap.size L l) (hn : n = ks.length) (hm : m = sl.length) (hk : Keys w w.heap.size A ks) (hS : Ints w w.heap.size S sl)
    (hs : ∀ k ∈ ks, k.length ≤ maxLen) (hl : ks.length ≤ 5000) (hsl : sl.length ≤ maxLen) :
    Calls Tryz.prog 34 #[.slice L nl cl, .agg #[.slice A n c, .slice S m d]] w fun e w' => e = .returned (.bool (storeB l ks sl)) ∧ Q w w' := by
  subst hnl
  subst hn
  subst hm
  have q0 := (Q.refl w).alloc (Obj.cells #[Value.slice A ks.length c, Value.slice S sl.length d] 26)
  have Hr := Lib.hid ((hr.q (Nat.le_refl _) q0).more q0.size)
  have Hk := Lib.hid ((hk.q (Nat.le_refl _) q0).more q0.size)
  have HS := Lib.hid ((hS.q (Nat.le_refl _) q0).more q0.size)
  have HB := Lib.hid (BoxT.new w (Value.slice A ks.length c) (Value.slice S sl.length d) 26)
  have HsM := Lib.hid hs
  have HD : Hid (storeB l ks sl = (rightB ks sl && decide (2 ≤ ks.length) && stF l ks 0)) := rfl
  clear hr hk hS hs
  go_enter Tryz.func34, Tryz.ntmps34
  go_wp2_with fail
  generalize w.alloc (Obj.cells #[Value.slice A ks.length c, Value.slice S sl.length d] 26) = W0 at *
  refine (refRight_any _ _ _ _ _ _ ks sl _ rfl rfl Hk.out HS.out HsM.out hl hsl).mono ?_
  rintro e w1 ⟨rfl, q1⟩
  have HB1 := Lib.hid (HB.out.q q1)
  have b0 := HB1.out.c0
  cases hR : rightB ks sl
  · rw [hR] at HD
    go_wp2_with fail
    go_ret
    exact ⟨by rw [HD.out]; rfl, q0.trans q1⟩
  · rw [hR] at HD
    by_cases h2 : 2 ≤ ks.length
    · have d2 : decide ((ks.length : Int) < 2) = false := decide_eq_false (by omega)
      have HD2 : Hid (storeB l ks sl = stF l ks 0) := by unfold Hid; rw [HD.out, decide_eq_true h2]; rfl
      have Hr1 := Lib.hid ((Hr.out.q (Nat.le_refl _) q1).more q1.size)
      have Hk1 := Lib.hid ((Hk.out.q (Nat.le_refl _) q1).more q1.size)
      have q01 := q0.trans q1
      clear b0 hR HD
      have b0 := HB1.out.c0
      go_wp2_with fail
      go_loopw [6, 7, 8] (fun i _ _ wr => ∃ k : Nat, k ≤ ks.length ∧ i = .int .i64 k ∧ Hid (stF l ks 0 = stF l (ks.drop k) k) ∧ Q w1 wr) (fun i _ _ _ => ks.length - (intOf i).toNat)
      case atStart => exact ⟨0, Nat.zero_le _, rfl, Lib.hid rfl, Q.refl _⟩
      case round =>
        obtain ⟨k, hkl, rfl, HF, qr⟩ := hrel
        clear b0
        have HBr := Lib.hid (HB1.out.q qr)
        have b0 := HBr.out.c0
        have b1 := HBr.out.c1
        by_cases hlt : k < ks.length
        · have HS1 := Lib.hid (stF_at l ks k hlt)
          have Hkr := Lib.hid ((Hk1.out.q (Nat.le_refl _) qr).more qr.size)
          by_cases h3 : 3 ≤ ks[k].length
          · have HT := Lib.hid (termAt_at hlt h3)
            obtain ⟨t, ht⟩ : ∃ t, ofKey ks[k] = t := ⟨_, rfl⟩
            rw [ht] at HT
            have HK : Hid (keyOk l ks[k] k = (mayB l k t && !(decide (k < 2) && (t.k != (k : Int))))) := by unfold Hid keyOk; rw [decide_eq_true h3, ht]; rfl
            have Hl : Hid (t.xs.length ≤ maxLen) := by unfold Hid; rw [← ht]; have := HsM.out _ (List.getElem_mem hlt); simp [ofKey]; omega
            clear ht h3
            go_wp2_with fail
            refine (refOf_any _ _ _ _ _ _ ks k _ rfl Hkr.out).mono ?_
            rintro e w2 ⟨A1, n1, c1, rfl, hn1, hA1, q2⟩
            rw [HT.out] at hn1 hA1 ⊢
            simp only [Option.getD_some, Option.isSome_some] at hn1 hA1 ⊢
            have Hn1 := Lib.hid hn1
            have q23 := q2.alloc (Obj.cells #[.int .i64 t.k, .int .i64 t.s, .int .i64 t.p, .slice A1 n1 c1] 107)
            have q3 := (Q.refl w2).alloc (Obj.cells #[.int .i64 t.k, .int .i64 t.s, .int .i64 t.p, .slice A1 n1 c1] 107)
            have HA1 := Lib.hid ((hA1.q (Nat.le_refl _) q3).more q3.size)
            have X := Box4.new w2 (.int .i64 t.k) (.int .i64 t.s) (.int .i64 t.p) (.slice A1 n1 c1) 107
            have qr3 := qr.trans q23
            have HX := Lib.hid X
            clear hn1 hA1 X b0 b1
            go_wp2_with fail
            generalize w2.alloc (Obj.cells #[.int .i64 t.k, .int .i64 t.s, .int .i64 t.p, .slice A1 n1 c1] 107) = W3 at *
            refine (refmay_any _ _ _ _ _ _ k l t _ rfl ((Hr1.out.q (Nat.le_refl _) qr3).more qr3.size) Hn1.out HA1.out Hl.out).mono ?_
            rintro e w4 ⟨rfl, q4⟩
            have qr4 := qr3.trans q4
            have x0 := (HX.out.q q4).c0
            cases hM : mayB l k t
            · have HR : Hid (storeB l ks sl = false) := by unfold Hid; rw [HD2.out, HF.out, HS1.out, HK.out, hM]; rfl
              go_wp2_with fail
              go_ret
              exact ⟨by rw [HR.out]; rfl, q01.trans qr4⟩
            · by_cases hk2 : k < 2
              · have d3 : decide ((k : Int) < 2) = true := decide_eq_true (by omega)
                cases hne : (t.k != (k : Int))
                · have HR : Hid (stF l (ks.drop k) k = stF l (ks.drop (k + 1)) (k + 1)) := by unfold Hid; rw [HS1.out, HK.out, hM, hne, Bool.and_false]; rfl
                  clear hk2
                  go_wp2_with fail
                  go_roundw
                  case rel => exact ⟨k + 1, by omega, by go_num, Lib.hid (HF.out.trans HR.out), qr4⟩
                  case measure => simp [intOf]; omega
                · have HR : Hid (storeB l ks sl = false) := by unfold Hid; rw [HD2.out, HF.out, HS1.out, HK.out, hM, hne, decide_eq_true hk2]; rfl
                  clear hk2
                  go_wp2_with fail
                  go_ret
                  exact ⟨by rw [HR.out]; rfl, q01.trans qr4⟩
              · have d3 : decide ((k : Int) < 2) = false := decide_eq_false (by omega)
                have HR : Hid (stF l (ks.drop k) k = stF l (ks.drop (k + 1)) (k + 1)) := by unfold Hid; rw [HS1.out, HK.out, hM, decide_eq_false hk2]; rfl
                clear hk2
                go_wp2_with fail
                go_roundw
                case rel => exact ⟨k + 1, by omega, by go_num, Lib.hid (HF.out.trans HR.out), qr4⟩
                case measure => simp [intOf]; omega
          · have HT := Lib.hid (termAt_short hlt (Nat.lt_of_not_le h3))
            have HR : Hid (storeB l ks sl = false) := by unfold Hid; rw [HD2.out, HF.out, HS1.out, keyOk, decide_eq_false h3]; rfl
            clear h3
            go_wp2_with fail
            refine (refOf_any _ _ _ _ _ _ ks k _ rfl Hkr.out).mono ?_
            rintro e w2 ⟨A1, n1, c1, rfl, hn1, hA1, q2⟩
            rw [HT.out]
            simp only [Option.getD_none, Option.isSome_none, Tm.none]
            have q23 := q2.alloc (Obj.cells #[.int .i64 0, .int .i64 0, .int .i64 0, .slice A1 n1 c1] 107)
            clear hn1 hA1 b0 b1
            go_wp2_with fail
            go_ret
            exact ⟨by rw [HR.out]; rfl, q01.trans (qr.trans q23)⟩
        · have HS1 := Lib.hid (stF_end l ks k (by omega))
          go_wp2_with fail
          go_ret
          exact ⟨by rw [HD2.out, HF.out, HS1.out]; rfl, q01.trans qr⟩
    · have d2 : decide ((ks.length : Int) < 2) = true := decide_eq_true (by omega)
      have HD2 : Hid (storeB l ks sl = false) := by unfold Hid; rw [HD.out, decide_eq_false h2]; rfl
      go_wp2_with fail
      go_ret
      exact ⟨by rw [HD2.out]; rfl, q0.trans q1⟩
end Go.Proofs.YtjmopbimleoidaaGreat.Tm

namespace Go.Proofs.YtjmopbimleoidaaGreat.Tm
open Go.RowKit Kit Hs

def CloneP (vs : List Value) (w : World) (e : Ending) (w' : World) : Prop :=
  ∃ A c, e = .returned (.slice A vs.length c) ∧ vs.length ≤ c ∧ (0 < vs.length → ∃ g, A = some ⟨g, 0, none⟩ ∧ w.heap.size ≤ g ∧ g < w'.heap.size ∧ ∀ j u, vs[j]? = some u → w'.cell? ⟨g, j, none⟩ = some u ∧ w'.frozen? ⟨g, j, none⟩ = false) ∧ Q w w'

theorem cellsI_len (sl : List Int) : (cellsI sl).length = sl.length := by simp [cellsI]
end Go.Proofs.YtjmopbimleoidaaGreat.Tm

namespace Go.Proofs.YtjmopbimleoidaaGreat.Hs
open Go.RowKit Kit

end Go.Proofs.YtjmopbimleoidaaGreat.Hs

namespace Go.Proofs.YtjmopbimleoidaaGreat.Tm
open Go.RowKit Kit Hs

end Go.Proofs.YtjmopbimleoidaaGreat.Tm

namespace Go.Proofs.YtjmopbimleoidaaGreat.Tm
open Go.RowKit Kit Hs

/-- a row with its first k and its last k turned round -/
def rv (l : List Int) (k : Nat) : List Int := (List.range l.length).map fun p => if p < k ∨ l.length - k ≤ p then l[l.length - 1 - p]?.getD 0 else l[p]?.getD 0
end Go.Proofs.YtjmopbimleoidaaGreat.Tm

namespace Go.Proofs.YtjmopbimleoidaaGreat.Tm
open Go.RowKit Kit Hs

end Go.Proofs.YtjmopbimleoidaaGreat.Tm

namespace Go.Proofs.YtjmopbimleoidaaGreat.Tm
open Go.RowKit Kit Hs

end Go.Proofs.YtjmopbimleoidaaGreat.Tm

namespace Go.Proofs.YtjmopbimleoidaaGreat.Tm
open Go.RowKit Kit Hs

def first3 : List (List Int) := [[0, 0, 0], [1, 0, 0]]
end Go.Proofs.YtjmopbimleoidaaGreat.Tm

namespace Go.Proofs.YtjmopbimleoidaaGreat.Tm
open Go.RowKit Kit Hs

theorem keyOk_parts {l : List Sg.Sig} {key : List Int} {i : Nat} (h : keyOk l key i = true) : 3 ≤ key.length ∧ mayB l i (ofKey key) = true ∧ (i < 2 → (ofKey key).k = (i : Int)) := by
  unfold keyOk at h
  simp only [Bool.and_eq_true, decide_eq_true_eq, Bool.not_eq_true', Bool.and_eq_false_iff, decide_eq_false_iff_not, bne_eq_false_iff_eq] at h
  obtain ⟨⟨h1, h2⟩, h3⟩ := h
  exact ⟨h1, h2, fun hi => h3.resolve_left (by omega)⟩
theorem key_of {key : List Int} (h : 3 ≤ key.length) : (ofKey key).key = key := by
  rw [ofKey_at h]
  match key, h with
  | a :: b :: c :: r, _ => rfl
theorem Store.head {l : List Sg.Sig} {ks : List (List Int)} (h : Store l ks) {i : Nat} (hi : i < 2) : ks[i]? = some [(i : Int), 0, 0] := by
  have hlt : i < ks.length := by have := h.two; omega
  have hk := h.ok i _ (List.getElem?_eq_getElem hlt)
  obtain ⟨h3, hm, hk2⟩ := keyOk_parts hk
  have hkk := hk2 hi
  rw [List.getElem?_eq_getElem hlt, ← key_of h3]
  obtain ⟨t, ht⟩ : ∃ t, ofKey ks[i] = t := ⟨_, rfl⟩
  rw [ht] at hkk hm ⊢
  unfold mayB at hm
  simp only [Bool.and_eq_true] at hm
  obtain ⟨⟨hst, hha⟩, _⟩ := hm
  unfold standB at hst
  rw [if_neg (by omega), if_neg (by omega), if_neg (by omega)] at hst
  unfold hasB at hha
  rw [if_neg (by omega)] at hha
  simp only [Bool.and_eq_true, beq_iff_eq] at hst hha
  have hx : t.xs.length = 0 := by
    have h2 := hha.2
    unfold partsN at h2
    rw [if_neg (by omega), if_neg (by omega), if_neg (by omega)] at h2
    omega
  have hx' := List.eq_nil_of_length_eq_zero hx
  simp [Tm.key, hkk, hst.1, hst.2, hx']
theorem Store.first {l : List Sg.Sig} {ks : List (List Int)} (h : Store l ks) : ks.take 2 = first3 := by
  apply List.ext_getElem?
  intro i
  by_cases hi : i < 2
  · rw [List.getElem?_take, if_pos hi, h.head hi]
    match i, hi with
    | 0, _ => rfl
    | 1, _ => rfl
  · rw [List.getElem?_take, if_neg hi]
    exact (List.getElem?_eq_none (by simp [first3]; omega)).symm
theorem _root_.Go.Proofs.YtjmopbimleoidaaGreat.Hs.Keys.take {w : World} {B : Nat} {A : Option Addr} {ks : List (List Int)} (h : Keys w B A ks) (n : Nat) : Keys w B A (ks.take n) := fun h0 => by
  obtain ⟨ad, e, hb, hc⟩ := h (by rw [List.length_take] at h0; omega)
  refine ⟨ad, e, hb, fun i k hk => hc i k ?_⟩
  rw [List.getElem?_take] at hk
  split at hk
  · exact hk
  · cases hk
end Go.Proofs.YtjmopbimleoidaaGreat.Tm

namespace Go.Proofs.YtjmopbimleoidaaGreat.Sg
open Go.ChangeShapes Go.WideShapes Go.RowKit Kit Go.Deep Go.Joins

section
variable {H : Type} {enc : TypeId × Value → H} {W : World} {base : Nat}
end
end Go.Proofs.YtjmopbimleoidaaGreat.Sg

namespace Go.Proofs.YtjmopbimleoidaaGreat.Tm
open Go.RowKit Kit Hs

end Go.Proofs.YtjmopbimleoidaaGreat.Tm

namespace Go.Proofs.YtjmopbimleoidaaGreat.Kit
open Go.RowKit

theorem run_copy_rows {P : Program} (w : World) (dT sT ty elem : TypeId) (sz : Nat) (g dLen dCap : Nat) (a : Addr) (sLen sCap : Nat) (cur : Array Value) (t : TypeId) (cs : List Value)
    (hu : P.underlying dT = some (.slice elem)) (hs : (P.info? elem).map (·.size) = some sz)
    (hg : w.heap[g]? = some (.cells cur t (0, 0))) (hn : cs.length = Nat.min sLen dLen * sz)
    (hsrc : ∀ j v, cs[j]? = some v → w.cell? (a.add j) = some v) (hfit : cs.length ≤ cur.size) (h1 : ∀ v ∈ cs, v.oneCell' = true) :
    (Builtin.copy_ #[dT, sT] ty #[.slice (some ⟨g, 0, none⟩) dLen dCap, .slice (some a) sLen sCap]).run P w =
      .ok (goInt (Nat.min sLen dLen)) (w.setRow g (cs ++ cur.toList.drop cs.length).toArray) := by
  have hl := run_loadCells_list (P := P) w a cs hsrc
  have hst := run_storeCells_at P g 0 t cs 0 cur w hg (by simpa using hfit) h1
  cases hq : P.info? elem with
  | none => simp [hq] at hs
  | some i =>
    have hi : i.size = sz := by simpa [hq] using hs
    simp [Builtin.copy_, run_underlying hu, Builtin.lenOf, Builtin.firstCells, sizeOf, typeInfo, hq, hi, ← hn, hl, hst]
theorem run_copy_rows_none {P : Program} (w : World) (dT sT ty elem : TypeId) (sz : Nat) (d a : Option Addr) (dLen dCap sLen sCap : Nat)
    (hu : P.underlying dT = some (.slice elem)) (hs : (P.info? elem).map (·.size) = some sz) (hn : Nat.min sLen dLen = 0) :
    (Builtin.copy_ #[dT, sT] ty #[.slice d dLen dCap, .slice a sLen sCap]).run P w = .ok (goInt 0) w := by
  cases hq : P.info? elem with
  | none => simp [hq] at hs
  | some i =>
    have hl : ∀ (x : Addr), (loadCells x 0).run P w = .ok #[] w := fun x => by simpa using run_loadCells_list (P := P) w x [] (by simp)
    cases d <;> cases a <;> simp [Builtin.copy_, run_underlying hu, Builtin.lenOf, Builtin.firstCells, sizeOf, typeInfo, hq, hn, storeCells, hl]

/-- copy(d, s) of n elements: d a block of the call's own, read from its head; s whatever, nil too -/
theorem run_copy_all {P : Program} (w : World) (dT sT ty elem : TypeId) (sz : Nat) (g n dCap : Nat) (sp : Option Addr) (sCap : Nat) (cur : Array Value) (t : TypeId) (cs : List Value)
    (hu : P.underlying dT = some (.slice elem)) (hs : (P.info? elem).map (·.size) = some sz) (hg : w.heap[g]? = some (.cells cur t (0, 0))) (hn : cs.length = n * sz) (hz : 0 < sz)
    (hsrc : 0 < cs.length → ∃ ad, sp = some ad ∧ ∀ j v, cs[j]? = some v → w.cell? (ad.add j) = some v) (hfit : cs.length ≤ cur.size) (h1 : ∀ v ∈ cs, v.oneCell' = true) :
    ∃ w', (Builtin.copy_ #[dT, sT] ty #[.slice (some ⟨g, 0, none⟩) n dCap, .slice sp n sCap]).run P w = .ok (.int .i64 n) w' ∧
      w'.heap[g]? = some (.cells (cs ++ cur.toList.drop cs.length).toArray t (0, 0)) ∧ w.grownBy w' (some g) := by
  have hm : Nat.min n n = n := Nat.min_self n
  by_cases h0 : cs.length = 0
  · obtain rfl : cs = [] := List.eq_nil_of_length_eq_zero h0
    have hm0 : n = 0 := by
      rcases Nat.eq_zero_or_pos n with e | e
      · exact e
      · have := Nat.mul_pos e hz
        simp at hn
        omega
    subst hm0
    exact ⟨w, run_copy_rows_none (P := P) w dT sT ty elem sz (some ⟨g, 0, none⟩) sp 0 dCap 0 sCap hu hs rfl, by simpa using hg, World.grownBy.refl w _⟩
  · obtain ⟨ad, rfl, hsrc'⟩ := hsrc (by omega)
    have hrun := run_copy_rows (P := P) w dT sT ty elem sz g n dCap ad n sCap cur t cs hu hs hg (by rw [hm]; exact hn) hsrc' hfit h1
    rw [hm] at hrun
    exact ⟨_, hrun, by simpa using setRow_heap w g _ _ t _ hg, ⟨rfl, rfl, rfl, by simp [World.setRow], fun k _ hne => setRow_other w g k _ (fun e => hne (by rw [e]))⟩⟩
end Go.Proofs.YtjmopbimleoidaaGreat.Kit

namespace Go.Proofs.YtjmopbimleoidaaGreat.Tr
open Go.RowKit Kit

/-- a slice value that reads these cells, below block B -/
def Rds (w : World) (B : Nat) (A : Option Addr) (cs : List Value) : Prop := 0 < cs.length → ∃ ad, A = some ad ∧ ad.block < B ∧ ∀ j v, cs[j]? = some v → w.cell? (ad.add j) = some v
theorem add_block (a : Addr) (n : Nat) : (a.add n).block = a.block := by unfold Addr.add; split <;> rfl
theorem add_succ (a : Addr) (n : Nat) : a.add (n + 1) = ⟨(a.add n).block, (a.add n).off + 1, none⟩ := by
  unfold Addr.add
  by_cases h : n = 0 <;> simp [h, Nat.add_assoc]
theorem add_zero_head (g j : Nat) : (⟨g, 0, none⟩ : Addr).add j = ⟨g, j, none⟩ := by
  unfold Addr.add
  by_cases h : j = 0 <;> simp [h]
theorem Rds.keep {w w' : World} {B : Nat} {A : Option Addr} {l : List Value} (h : Rds w B A l) (hb : Below B w w') : Rds w' B A l := fun h0 => by
  obtain ⟨ad, e, hlt, hc⟩ := h h0
  exact ⟨ad, e, hlt, fun i s hs => (hb.cell (by rw [add_block]; exact hlt)).trans (hc i s hs)⟩
theorem Rds.more {w : World} {B B' : Nat} {A : Option Addr} {l : List Value} (h : Rds w B A l) (hB : B ≤ B') : Rds w B' A l := fun h0 => by
  obtain ⟨ad, e, hlt, hc⟩ := h h0
  exact ⟨ad, e, by omega, hc⟩
theorem Rds.q {w w' : World} {A : Option Addr} {l : List Value} (h : Rds w w.heap.size A l) (q : Q w w') : Rds w' w'.heap.size A l := (h.keep q).more q.size
theorem Rds.nil (w : World) (B : Nat) (A : Option Addr) : Rds w B A [] := fun h => absurd h (by simp)

abbrev Note := Int × Int
def cellsI (l : List Int) : List Value := l.map (Value.int .i64)
def cellsP : List Note → List Value
  | [] => []
  | n :: l => .int .i64 n.1 :: .int .i64 n.2 :: cellsP l
theorem cellsI_len (l : List Int) : (cellsI l).length = l.length := by simp [cellsI]
theorem cellsI_one (l : List Int) : ∀ u ∈ cellsI l, u.oneCell' = true := fun u hu => by
  obtain ⟨x, _, rfl⟩ := List.mem_map.1 hu; rfl
theorem cellsI_at {l : List Int} {k : Nat} (h : k < l.length) : (cellsI l)[k]? = some (.int .i64 l[k]) := by simp [cellsI, h]
theorem cellsI_append (a b : List Int) : cellsI (a ++ b) = cellsI a ++ cellsI b := by simp [cellsI]
theorem cellsI_set (l : List Int) (k : Nat) (x : Int) : cellsI (l.set k x) = (cellsI l).set k (.int .i64 x) := by simp [cellsI]
theorem cellsP_len (l : List Note) : (cellsP l).length = l.length * 2 := by
  induction l with
  | nil => rfl
  | cons s l ih => simp [cellsP, ih]; omega
theorem cellsP_append (a b : List Note) : cellsP (a ++ b) = cellsP a ++ cellsP b := by
  induction a with
  | nil => rfl
  | cons s l ih => simp [cellsP, ih]
theorem cellsP_even (l : List Note) (i : Nat) : (cellsP l)[i * 2]? = l[i]?.map fun s => Value.int .i64 s.1 := by
  induction l generalizing i with
  | nil => simp [cellsP]
  | cons s l ih =>
    cases i with
    | zero => rfl
    | succ i => rw [show (i + 1) * 2 = i * 2 + 1 + 1 by omega]; simpa [cellsP] using ih i
theorem cellsP_odd (l : List Note) (i : Nat) : (cellsP l)[i * 2 + 1]? = l[i]?.map fun s => Value.int .i64 s.2 := by
  induction l generalizing i with
  | nil => simp [cellsP]
  | cons s l ih =>
    cases i with
    | zero => rfl
    | succ i => rw [show (i + 1) * 2 + 1 = i * 2 + 1 + 1 + 1 by omega]; simpa [cellsP] using ih i
theorem cellsP_one (l : List Note) : ∀ v ∈ cellsP l, v.oneCell' = true := by
  induction l with
  | nil => simp [cellsP]
  | cons s l ih => simp only [cellsP, List.mem_cons]; rintro v (rfl | rfl | h); exact rfl; exact rfl; exact ih v h
theorem Rds.int_at {w : World} {B : Nat} {A : Option Addr} {l : List Int} (h : Rds w B A (cellsI l)) {k : Nat} (hk : k < l.length) :
    ∃ ad, A = some ad ∧ ad.block < B ∧ w.cell? (ad.add k) = some (.int .i64 l[k]) := by
  obtain ⟨ad, e, hlt, hc⟩ := h (by rw [cellsI_len]; omega)
  exact ⟨ad, e, hlt, hc k _ (cellsI_at hk)⟩
theorem Rds.pair_at {w : World} {B : Nat} {A : Option Addr} {l : List Note} (h : Rds w B A (cellsP l)) {k : Nat} (hk : k < l.length) :
    ∃ ad, A = some ad ∧ ad.block < B ∧ w.cell? (ad.add (k * 2)) = some (.int .i64 l[k].1) ∧ w.cell? ⟨(ad.add (k * 2)).block, (ad.add (k * 2)).off + 1, none⟩ = some (.int .i64 l[k].2) := by
  obtain ⟨ad, e, hlt, hc⟩ := h (by rw [cellsP_len]; omega)
  refine ⟨ad, e, hlt, hc _ _ (by rw [cellsP_even, List.getElem?_eq_getElem hk]; rfl), ?_⟩
  rw [← add_succ]
  exact hc _ _ (by rw [cellsP_odd, List.getElem?_eq_getElem hk]; rfl)
theorem Rds.src {w : World} {B : Nat} {A : Option Addr} {l : List Value} (h : Rds w B A l) : Src w A l := fun h0 => by
  obtain ⟨ad, e, _, hc⟩ := h h0
  exact ⟨ad, e, hc⟩

/-- block g holds these cells, from its head on, and may be written -/
def OwnC (w : World) (g : Nat) (cs : List Value) : Prop := g < w.heap.size ∧ ∀ j v, cs[j]? = some v → w.cell? ⟨g, j, none⟩ = some v ∧ w.frozen? ⟨g, j, none⟩ = false
theorem OwnC.rds {w : World} {g : Nat} {cs : List Value} (h : OwnC w g cs) : Rds w w.heap.size (some ⟨g, 0, none⟩) cs := fun _ => ⟨_, rfl, h.1, fun j v hv => by rw [add_zero_head]; exact (h.2 j v hv).1⟩
theorem OwnC.q {w w' : World} {g : Nat} {cs : List Value} (h : OwnC w g cs) (q : Q w w') : OwnC w' g cs :=
  ⟨Nat.lt_of_lt_of_le h.1 q.size, fun i x hx => ⟨(q.cell (p := ⟨g, i, none⟩) h.1).trans (h.2 i x hx).1, (q.frozen (p := ⟨g, i, none⟩) h.1).trans (h.2 i x hx).2⟩⟩
theorem OwnC.far {w : World} {g : Nat} {cs : List Value} (h : OwnC w g cs) {b i : Nat} (hb : b ≠ g) (u : Value) : OwnC (w.setCell ⟨b, i, none⟩ u) g cs :=
  ⟨by simpa [World.setCell] using h.1, fun j v hv => ⟨(World.cell?_setCell_far _ _ _ _ hb).trans (h.2 j v hv).1, by rw [World.frozen?_setCell]; exact (h.2 j v hv).2⟩⟩
theorem OwnC.grown {w w' : World} {g : Nat} {cs : List Value} {row : Option Nat} (h : OwnC w g cs) (hg : w.grownBy w' row) (hr : row ≠ some g) : OwnC w' g cs := by
  have hb := hg.block g h.1 (fun e => hr e.symm)
  exact ⟨Nat.lt_of_lt_of_le h.1 hg.size, fun j v hv => ⟨(World.cell?_of_block (a := ⟨g, j, none⟩) hb).trans (h.2 j v hv).1, (World.frozen?_of_block (a := ⟨g, j, none⟩) hb).trans (h.2 j v hv).2⟩⟩
theorem OwnC.take {w : World} {g : Nat} {cs : List Value} (h : OwnC w g cs) (n : Nat) : OwnC w g (cs.take n) :=
  ⟨h.1, fun j v hv => h.2 j v (by rw [List.getElem?_take] at hv; split at hv; exact hv; cases hv)⟩
theorem setCell_ne {W : World} {B i j : Nat} {v u : Value} (h : i ≠ j) (hc : W.cell? ⟨B, j, none⟩ = some u) : (W.setCell ⟨B, i, none⟩ v).cell? ⟨B, j, none⟩ = some u := by
  have := World.cell?_setCell_other (w := W) (a := ⟨B, i, none⟩) (b := ⟨B, j, none⟩) (v := v) (by intro e; injection e with _ e; exact h e)
  exact this.trans hc
theorem setCell_eq {W : World} {B i : Nat} {v u : Value} (hc : W.cell? ⟨B, i, none⟩ = some u) : (W.setCell ⟨B, i, none⟩ v).cell? ⟨B, i, none⟩ = some v := World.cell?_setCell_same' _ _ _ (by rw [hc]; rfl)
theorem OwnC.set {w : World} {g : Nat} {cs : List Value} (h : OwnC w g cs) {s : Nat} (hs : s < cs.length) (v : Value) : OwnC (w.setCell ⟨g, s, none⟩ v) g (cs.set s v) := by
  refine ⟨by simp [World.setCell]; exact h.1, fun i x hx => ?_⟩
  rw [World.frozen?_setCell]
  by_cases hi : s = i
  · subst hi
    rw [List.getElem?_set_self hs] at hx
    obtain rfl : v = x := by simpa using hx
    have := h.2 s _ (List.getElem?_eq_getElem hs)
    exact ⟨setCell_eq this.1, this.2⟩
  · rw [List.getElem?_set_ne hi] at hx
    exact ⟨setCell_ne hi (h.2 i x hx).1, (h.2 i x hx).2⟩
theorem OwnC.of_row {w : World} {base g n cap size : Nat} {e : TypeId} {cs : List Value} (h : w.ownsRow base e size (.slice (some ⟨g, 0, none⟩) n cap) n cs) : OwnC w g cs := by
  refine ⟨(h.lt g rfl).2, fun j v hv => ⟨?_, h.frozenAt j⟩⟩
  have := h.cells (g := g) rfl j v hv
  rwa [add_zero_head] at this
theorem setCell_grown (w : World) (g j : Nat) (u : Value) : w.grownBy (w.setCell ⟨g, j, none⟩ u) (some g) :=
  ⟨rfl, rfl, rfl, by simp [World.setCell], fun k _ hk => heap_setCell_other w ⟨g, j, none⟩ k u (fun e => hk (by simp [e]))⟩
theorem grown_trans {a b c : World} {row : Option Nat} (h : a.grownBy b row) (k : b.grownBy c row) : a.grownBy c row :=
  ⟨k.os.trans h.os, k.tape.trans h.tape, k.output.trans h.output, Nat.le_trans h.size k.size, fun i hi hr => (k.block i (Nat.lt_of_lt_of_le hi h.size) hr).trans (h.block i hi hr)⟩
theorem grows_q {a b : World} (q : Q a b) (row : Option Nat) : a.grownBy b row := ⟨q.os, q.tape, q.output, q.size, fun i hi _ => q.block i hi⟩
theorem grown_q {a b : World} {g : Nat} (h : a.grownBy b (some g)) {W : World} (hq : Q W a) (hg : W.heap.size ≤ g) : Q W b := Below.grown hq h hq.size (fun k e => by injection e with e; omega)

structure Cells where
  V : List Int
  N : List Note
  M : List Int
def back1 (n : Note) (v : List Int) : Option (List Int) := if n.1 = -1 then (if v.length = 0 then none else some (v.take (v.length - 1))) else if 0 ≤ n.1 ∧ n.1 < v.length then some (v.set n.1.toNat n.2) else none
/-- the notes of this row are taken back, the first one first -/
def backR : List Note → List Int → Option (List Int)
  | [], v => some v
  | n :: l, v => (back1 n v).bind (backR l)
/-- the notes from the m-th on are taken back, the last one first -/
def backs (N : List Note) (V : List Int) : Option (List Int) := backR N.reverse V
theorem take_rev (N : List Note) (k : Nat) (h : k < N.length) : (N.take (k + 1)).reverse = N[k] :: (N.take k).reverse := by
  rw [List.take_succ_eq_append_getElem h, List.reverse_append]; rfl
theorem backR_at (N : List Note) (k : Nat) (h : k < N.length) (v : List Int) : backR (N.take (k + 1)).reverse v = (back1 N[k] v).bind (backR (N.take k).reverse) := by rw [take_rev N k h]; rfl
/-- how many are left, behind a note that is taken back -/
def cnt1 (a : Int) (m : Int) : Int := if a = -1 then m - 1 else m
def ok1 (a : Int) (m : Int) : Bool := if a = -1 then decide (0 < m) else decide (0 ≤ a) && decide (a < m)
def cntR : List Note → Nat → Option Nat
  | [], m => some m
  | n :: l, m => if ok1 n.1 m then cntR l (cnt1 n.1 m).toNat else none
theorem back1_ok (n : Note) (v : List Int) : (back1 n v).isSome = ok1 n.1 v.length := by
  unfold back1 ok1
  by_cases h : n.1 = -1
  · rw [if_pos h, if_pos h]
    by_cases h0 : v.length = 0
    · rw [if_pos h0, h0]; rfl
    · rw [if_neg h0]; symm; exact decide_eq_true (by omega)
  · rw [if_neg h, if_neg h]
    by_cases h0 : 0 ≤ n.1 ∧ n.1 < v.length
    · rw [if_pos h0, decide_eq_true h0.1, decide_eq_true h0.2]; rfl
    · rw [if_neg h0]
      by_cases h1 : 0 ≤ n.1
      · have h2 : ¬ n.1 < v.length := fun h2 => h0 ⟨h1, h2⟩
        rw [decide_eq_false h2, Bool.and_false]; rfl
      · rw [decide_eq_false h1]; rfl
theorem back1_cnt {n : Note} {v v' : List Int} (h : back1 n v = some v') : (v'.length : Int) = cnt1 n.1 v.length := by
  unfold back1 at h
  unfold cnt1
  by_cases h1 : n.1 = -1
  · rw [if_pos h1] at h ⊢
    by_cases h0 : v.length = 0
    · rw [if_pos h0] at h; cases h
    · rw [if_neg h0] at h; injection h with h; subst h; simp; omega
  · rw [if_neg h1] at h ⊢
    by_cases h0 : 0 ≤ n.1 ∧ n.1 < v.length
    · rw [if_pos h0] at h; injection h with h; subst h; simp
    · rw [if_neg h0] at h; cases h
theorem backR_cnt (l : List Note) (v : List Int) : (backR l v).map (·.length) = cntR l v.length := by
  induction l generalizing v with
  | nil => rfl
  | cons n l ih =>
    show ((back1 n v).bind (backR l)).map (·.length) = if ok1 n.1 v.length then cntR l (cnt1 n.1 v.length).toNat else none
    rw [← back1_ok]
    cases e : back1 n v with
    | none => rfl
    | some u =>
      have := back1_cnt e
      show (backR l u).map (·.length) = cntR l (cnt1 n.1 v.length).toNat
      rw [ih, ← this]; rfl
/-- marks: from p on they don't fall, and are n at most -/
def mkB (n : Int) (p : Int) : List Int → Bool
  | [] => true
  | x :: l => decide (p ≤ x) && decide (x ≤ n) && mkB n x l
theorem mkB_at (n p : Int) (M : List Int) (k : Nat) (h : k < M.length) : mkB n p (M.drop k) = (decide (p ≤ M[k]) && decide (M[k] ≤ n) && mkB n M[k] (M.drop (k + 1))) := by
  rw [List.drop_eq_getElem_cons h]; rfl
theorem mkB_end (n p : Int) (M : List Int) (k : Nat) (h : M.length ≤ k) : mkB n p (M.drop k) = true := by
  rw [List.drop_eq_nil_of_le h]; rfl
def rightB (c : Cells) : Bool := mkB c.N.length 0 c.M && (backs c.N c.V).isSome
set_option maxHeartbeats 400000 in
theorem place_any (a m : Int) (w : World) : Calls Tryz.prog 122 #[.int .i64 a, .int .i64 m] w fun e w' => e = .returned (.bool (decide (0 ≤ a) && decide (a < m))) ∧ w = w' := by
  by_cases h : 0 ≤ a
  · have hd : decide (0 ≤ a) = true := decide_eq_true h
    rw [hd]
    go_enter Tryz.func122, Tryz.ntmps122
    go_wp2_with fail
    go_ret
    exact ⟨rfl, rfl⟩
  · have hd : decide (0 ≤ a) = false := decide_eq_false h
    rw [hd]
    go_enter Tryz.func122, Tryz.ntmps122
    go_wp2_with fail
    go_ret
    exact ⟨rfl, rfl⟩

theorem intInfo : (Tryz.prog.info? 3).map (fun i => (i.zero, i.size, i.bytes)) = some (some (.int .i64 0), 1, 8) := by kernel_rfl
theorem noteInfo : (Tryz.prog.info? 113).map (fun i => (i.zero, i.size, i.bytes)) = some (some (.agg #[.int .i64 0, .int .i64 0]), 2, 16) := by kernel_rfl
/-- a copy: in a block of its own, with room for one more -/
def CopyRow (E : TypeId) (size n : Nat) (cs : List Value) (w : World) (e : Ending) (w' : World) : Prop :=
  ∃ g, e = .returned (.slice (some ⟨g, 0, none⟩) n (n + 1)) ∧ w'.ownsRow w.heap.size E size (.slice (some ⟨g, 0, none⟩) n (n + 1)) n cs ∧ Q w w'

set_option maxRecDepth 100000 in
set_option maxHeartbeats 1000000 in
theorem copyI_any (A : Option Addr) (n c : Nat) (l : List Int) (w : World) (hn : n = l.length) (hr : Rds w w.heap.size A (cellsI l)) (hl : l.length ≤ 1000000) :
    Calls Tryz.prog 151 #[.slice A n c] w (CopyRow 3 1 l.length (cellsI l) w) := by
  subst hn
  obtain ⟨i0, hi, hz0, hz1, hz2⟩ := info_parts intInfo
  have hmk : ∀ u : World, (Instr.makeSlice 24 (.int .i64 (l.length : Int)) (.int .i64 ((l.length : Int) + 1))).run Tryz.prog u =
      .ok (.slice (some ⟨u.heap.size, 0, none⟩) l.length (l.length + 1)) (u.alloc (.cells (madeCells #[.int .i64 0] (l.length + 1)) 3)) := fun u => by
    have h := run_make (P := Tryz.prog) u 24 3 i0 _ Tryz.underlying24 hi hz0 .i64 .i64 (l.length : Int) ((l.length : Int) + 1) (by omega) (by omega) (by rw [hz2]; omega) (by omega)
    have e1 : ((l.length : Int) + 1).toNat = l.length + 1 := by omega
    have e2 : ((l.length : Int)).toNat = l.length := by omega
    rw [e1, e2, hz1, Nat.mul_one] at h
    exact h
  have hsz : (Tryz.prog.info? 3).map (·.size) = some 1 := by rw [hi]; simp [hz1]
  have q1 := (Q.refl w).alloc (Obj.cells (madeCells #[.int .i64 0] (l.length + 1)) 3)
  have hr' := hr.q q1
  have hlen : (cellsI l).length = l.length * 1 := by simp [cellsI_len]
  obtain ⟨w2, hcp, hg2, hgr⟩ := run_copy_all (P := Tryz.prog) (w.alloc (Obj.cells (madeCells #[.int .i64 0] (l.length + 1)) 3))
    24 24 3 3 1 w.heap.size l.length (l.length + 1) A c _ 3 (cellsI l) Tryz.underlying24 hsz (heap_alloc_new w _) hlen (by omega)
    (fun h0 => by obtain ⟨ad, e, _, hc⟩ := hr' h0; exact ⟨ad, e, hc⟩) (by rw [hlen, size_madeCells]; omega) (cellsI_one l)
  clear hsz hi hz0 hz1 hz2 hr'
  have q2 : Q w w2 := q1.grown hgr (by simp) (by simp)
  have own2 : Hid (w2.ownsRow w.heap.size 3 1 (.slice (some ⟨w.heap.size, 0, none⟩) l.length (l.length + 1)) l.length (cellsI l)) :=
    ⟨hlen, .inr ⟨_, _, _, rfl, by omega, hg2, by omega, by unfold maxLen; omega, by simp [hlen, size_madeCells], by rw [← hlen]; simp⟩⟩
  clear hg2 hgr hr hlen q1
  go_enter Tryz.func151, Tryz.ntmps151
  go_wp2_with fail
  go_ret
  exact ⟨w.heap.size, rfl, own2.out, q2⟩

set_option maxRecDepth 100000 in
set_option maxHeartbeats 1000000 in
theorem copyP_any (A : Option Addr) (n c : Nat) (l : List Note) (w : World) (hn : n = l.length) (hr : Rds w w.heap.size A (cellsP l)) (hl : l.length ≤ 1000000) :
    Calls Tryz.prog 152 #[.slice A n c] w (CopyRow 113 2 l.length (cellsP l) w) := by
  subst hn
  obtain ⟨i0, hi, hz0, hz1, hz2⟩ := info_parts noteInfo
  have hmk : ∀ u : World, (Instr.makeSlice 27 (.int .i64 (l.length : Int)) (.int .i64 ((l.length : Int) + 1))).run Tryz.prog u =
      .ok (.slice (some ⟨u.heap.size, 0, none⟩) l.length (l.length + 1)) (u.alloc (.cells (madeCells #[.int .i64 0, .int .i64 0] ((l.length + 1) * 2)) 113)) := fun u => by
    have h := run_make (P := Tryz.prog) u 27 113 i0 _ Tryz.underlying27 hi hz0 .i64 .i64 (l.length : Int) ((l.length : Int) + 1) (by omega) (by omega) (by rw [hz2]; omega) (by omega)
    have e1 : ((l.length : Int) + 1).toNat = l.length + 1 := by omega
    have e2 : ((l.length : Int)).toNat = l.length := by omega
    rw [e1, e2, hz1] at h
    exact h
  have hsz : (Tryz.prog.info? 113).map (·.size) = some 2 := by rw [hi]; simp [hz1]
  have q1 := (Q.refl w).alloc (Obj.cells (madeCells #[.int .i64 0, .int .i64 0] ((l.length + 1) * 2)) 113)
  have hr' := hr.q q1
  have hlen : (cellsP l).length = l.length * 2 := by rw [cellsP_len]
  obtain ⟨w2, hcp, hg2, hgr⟩ := run_copy_all (P := Tryz.prog) (w.alloc (Obj.cells (madeCells #[.int .i64 0, .int .i64 0] ((l.length + 1) * 2)) 113))
    27 27 3 113 2 w.heap.size l.length (l.length + 1) A c _ 113 (cellsP l) Tryz.underlying27 hsz (heap_alloc_new w _) hlen (by omega)
    (fun h0 => by obtain ⟨ad, e, _, hc⟩ := hr' h0; exact ⟨ad, e, hc⟩) (by rw [hlen, size_madeCells]; omega) (cellsP_one l)
  clear hsz hi hz0 hz1 hz2 hr'
  have q2 : Q w w2 := q1.grown hgr (by simp) (by simp)
  have own2 : Hid (w2.ownsRow w.heap.size 113 2 (.slice (some ⟨w.heap.size, 0, none⟩) l.length (l.length + 1)) l.length (cellsP l)) :=
    ⟨hlen, .inr ⟨_, _, _, rfl, by omega, hg2, by omega, by unfold maxLen; omega, by simp [hlen, size_madeCells]; omega, by rw [← hlen]; simp⟩⟩
  clear hg2 hgr hr hlen q1
  go_enter Tryz.func152, Tryz.ntmps152
  go_wp2_with fail
  go_ret
  exact ⟨w.heap.size, rfl, own2.out, q2⟩

theorem count_any (n : Note) (m : Nat) (w : World) (hm : m ≤ 1000000) : Calls Tryz.prog 147 #[.agg #[.int .i64 n.1, .int .i64 n.2], .int .i64 (m : Int)] w fun e w' => e = .returned (.tuple #[.int .i64 (cnt1 n.1 m), .bool (ok1 n.1 m)]) ∧ Q w w' := by
  by_cases h : n.1 = -1
  · have H1 : Hid (cnt1 n.1 m = (m : Int) - 1) := by unfold Hid cnt1; rw [if_pos h]
    have H2 : Hid (ok1 n.1 m = decide (0 < (m : Int))) := by unfold Hid ok1; rw [if_pos h]
    have hd : (n.1 == -1) = true := by rw [h]; rfl
    clear h
    go_enter Tryz.func147, Tryz.ntmps147
    go_wp2_with fail
    go_ret2
    exact ⟨by rw [H1.out, H2.out]; simp, (Q.refl _).alloc _⟩
  · have H1 : Hid (cnt1 n.1 m = (m : Int)) := by unfold Hid cnt1; rw [if_neg h]
    have H2 : Hid (ok1 n.1 m = (decide (0 ≤ n.1) && decide (n.1 < (m : Int)))) := by unfold Hid ok1; rw [if_neg h]
    have hd : (n.1 == -1) = false := by simpa using h
    clear h
    go_enter Tryz.func147, Tryz.ntmps147
    go_wp2_with fail
    refine (place_any _ _ _).mono ?_
    rintro e w1 ⟨rfl, rfl⟩
    go_wp2_with fail
    go_ret2
    exact ⟨by rw [H1.out, H2.out]; rfl, (Q.refl _).alloc _⟩
end Go.Proofs.YtjmopbimleoidaaGreat.Tr

namespace Go.Proofs.YtjmopbimleoidaaGreat.Tr
open Go.RowKit Kit

/-- a box of three cells -/
structure Box3 (W : World) (B : Nat) (a b c : Value) : Prop where
  c0 : W.cell? ⟨B, 0, none⟩ = some a
  c1 : W.cell? ⟨B, 1, none⟩ = some b
  c2 : W.cell? ⟨B, 2, none⟩ = some c
  f0 : W.frozen? ⟨B, 0, none⟩ = false
  f1 : W.frozen? ⟨B, 1, none⟩ = false
  f2 : W.frozen? ⟨B, 2, none⟩ = false
  lt : B < W.heap.size
theorem Box3.three {W : World} {B : Nat} {a b c : Value} (h : Box3 W B a b c) : W.cell? ⟨B, 0, none⟩ = some a ∧ W.cell? ⟨B, 1, none⟩ = some b ∧ W.cell? ⟨B, 2, none⟩ = some c := ⟨h.c0, h.c1, h.c2⟩
theorem Box3.keep {W W' : World} {B : Nat} {a b c : Value} (h : Box3 W B a b c) (hb : W'.heap[B]? = W.heap[B]?) (hs : W.heap.size ≤ W'.heap.size) : Box3 W' B a b c :=
  ⟨(World.cell?_of_block (a := ⟨B, 0, none⟩) hb).trans h.c0, (World.cell?_of_block (a := ⟨B, 1, none⟩) hb).trans h.c1, (World.cell?_of_block (a := ⟨B, 2, none⟩) hb).trans h.c2,
    (World.frozen?_of_block (a := ⟨B, 0, none⟩) hb).trans h.f0, (World.frozen?_of_block (a := ⟨B, 1, none⟩) hb).trans h.f1, (World.frozen?_of_block (a := ⟨B, 2, none⟩) hb).trans h.f2, Nat.lt_of_lt_of_le h.lt hs⟩
theorem Box3.q {W W' : World} {B : Nat} {a b c : Value} (h : Box3 W B a b c) (q : Q W W') : Box3 W' B a b c := h.keep (q.block B h.lt) q.size
theorem Box3.grown {W W' : World} {B g : Nat} {a b c : Value} (h : Box3 W B a b c) (hg : W.grownBy W' (some g)) (hne : g ≠ B) : Box3 W' B a b c := h.keep (hg.block B h.lt (fun e => hne (by injection e with e; exact e.symm))) hg.size
theorem Box3.new (w : World) (a b c : Value) (t : TypeId) : Box3 (w.alloc (.cells #[a, b, c] t)) w.heap.size a b c := ⟨by simp, by simp, by simp, by simp, by simp, by simp, by simp⟩
theorem Box3.far {W : World} {B : Nat} {a b c : Value} (h : Box3 W B a b c) {g i : Nat} (hg : g ≠ B) (v : Value) : Box3 (W.setCell ⟨g, i, none⟩ v) B a b c := h.grown (setCell_grown W g i v) hg
theorem Box3.set0 {W : World} {B : Nat} {a b c : Value} (h : Box3 W B a b c) (v : Value) : Box3 (W.setCell ⟨B, 0, none⟩ v) B v b c :=
  ⟨setCell_eq h.c0, setCell_ne (by omega) h.c1, setCell_ne (by omega) h.c2, by rw [World.frozen?_setCell]; exact h.f0, by rw [World.frozen?_setCell]; exact h.f1, by rw [World.frozen?_setCell]; exact h.f2, by simpa [World.setCell] using h.lt⟩
theorem Box3.set1 {W : World} {B : Nat} {a b c : Value} (h : Box3 W B a b c) (v : Value) : Box3 (W.setCell ⟨B, 1, none⟩ v) B a v c :=
  ⟨setCell_ne (by omega) h.c0, setCell_eq h.c1, setCell_ne (by omega) h.c2, by rw [World.frozen?_setCell]; exact h.f0, by rw [World.frozen?_setCell]; exact h.f1, by rw [World.frozen?_setCell]; exact h.f2, by simpa [World.setCell] using h.lt⟩
theorem Box3.set2 {W : World} {B : Nat} {a b c : Value} (h : Box3 W B a b c) (v : Value) : Box3 (W.setCell ⟨B, 2, none⟩ v) B a b v :=
  ⟨setCell_ne (by omega) h.c0, setCell_ne (by omega) h.c1, setCell_eq h.c2, by rw [World.frozen?_setCell]; exact h.f0, by rw [World.frozen?_setCell]; exact h.f1, by rw [World.frozen?_setCell]; exact h.f2, by simpa [World.setCell] using h.lt⟩
theorem Box3.all {W : World} {B : Nat} {a b c : Value} (h : Box3 W B a b c) (x y z : Value) : Box3 (((W.setCell ⟨B, 0, none⟩ x).setCell ⟨B, 1, none⟩ y).setCell ⟨B, 2, none⟩ z) B x y z := ((h.set0 x).set1 y).set2 z
/-- what three stores into a box do to the rest -/
theorem set3_grown (W : World) (B : Nat) (x y z : Value) : W.grownBy (((W.setCell ⟨B, 0, none⟩ x).setCell ⟨B, 1, none⟩ y).setCell ⟨B, 2, none⟩ z) (some B) :=
  grown_trans (grown_trans (setCell_grown W B 0 x) (setCell_grown _ B 1 y)) (setCell_grown _ B 2 z)

/-- the value of cells, in memory -/
structure Rd (w : World) (c : Cells) (A : Option Addr) (k1 : Nat) (D : Option Addr) (k2 : Nat) (E : Option Addr) (k3 : Nat) : Prop where
  v : Rds w w.heap.size A (cellsI c.V)
  n : Rds w w.heap.size D (cellsP c.N)
  m : Rds w w.heap.size E (cellsI c.M)
  lv : c.V.length ≤ k1
  ln : c.N.length ≤ k2
  lm : c.M.length ≤ k3
theorem Rd.q {w w' : World} {c : Cells} {A : Option Addr} {k1 : Nat} {D : Option Addr} {k2 : Nat} {E : Option Addr} {k3 : Nat} (h : Rd w c A k1 D k2 E k3) (q : Q w w') : Rd w' c A k1 D k2 E k3 :=
  ⟨h.v.q q, h.n.q q, h.m.q q, h.lv, h.ln, h.lm⟩
/-- cells are few -/
def Few (c : Cells) (m : Nat) : Prop := c.V.length ≤ m ∧ c.N.length ≤ m ∧ c.M.length ≤ m

/-- what a call answers: cells in three blocks of its own -/
structure Out (w w' : World) (c : Cells) (g1 k1 g2 k2 g3 k3 : Nat) : Prop where
  v : OwnC w' g1 (cellsI c.V)
  n : OwnC w' g2 (cellsP c.N)
  m : OwnC w' g3 (cellsI c.M)
  lv : c.V.length ≤ k1
  ln : c.N.length ≤ k2
  lm : c.M.length ≤ k3
  o1 : w.heap.size ≤ g1
  o2 : w.heap.size ≤ g2
  o3 : w.heap.size ≤ g3
  d12 : g1 ≠ g2
  d13 : g1 ≠ g3
  d23 : g2 ≠ g3
  q : Q w w'
theorem Out.rd {w w' : World} {c : Cells} {g1 k1 g2 k2 g3 k3 : Nat} (h : Out w w' c g1 k1 g2 k2 g3 k3) : Rd w' c (some ⟨g1, 0, none⟩) k1 (some ⟨g2, 0, none⟩) k2 (some ⟨g3, 0, none⟩) k3 := ⟨h.v.rds, h.n.rds, h.m.rds, h.lv, h.ln, h.lm⟩
theorem Out.from {w0 w w' : World} {c : Cells} {g1 k1 g2 k2 g3 k3 : Nat} (h : Out w w' c g1 k1 g2 k2 g3 k3) (q : Q w0 w) : Out w0 w' c g1 k1 g2 k2 g3 k3 :=
  ⟨h.v, h.n, h.m, h.lv, h.ln, h.lm, Nat.le_trans q.size h.o1, Nat.le_trans q.size h.o2, Nat.le_trans q.size h.o3, h.d12, h.d13, h.d23, q.trans h.q⟩
theorem Out.more {w w' w'' : World} {c : Cells} {g1 k1 g2 k2 g3 k3 : Nat} (h : Out w w' c g1 k1 g2 k2 g3 k3) (q : Q w' w'') : Out w w'' c g1 k1 g2 k2 g3 k3 :=
  ⟨h.v.q q, h.n.q q, h.m.q q, h.lv, h.ln, h.lm, h.o1, h.o2, h.o3, h.d12, h.d13, h.d23, h.q.trans q⟩
/-- stores into a box that is none of the three -/
theorem Out.far {w w' w'' : World} {c : Cells} {g1 k1 g2 k2 g3 k3 B : Nat} (h : Out w w' c g1 k1 g2 k2 g3 k3) (hg : w'.grownBy w'' (some B)) (hB : w.heap.size ≤ B) (h1 : B ≠ g1) (h2 : B ≠ g2) (h3 : B ≠ g3) : Out w w'' c g1 k1 g2 k2 g3 k3 :=
  ⟨h.v.grown hg (by simpa using h1), h.n.grown hg (by simpa using h2), h.m.grown hg (by simpa using h3), h.lv, h.ln, h.lm, h.o1, h.o2, h.o3, h.d12, h.d13, h.d23, grown_q hg h.q hB⟩

/-- what copyOf answers -/
structure Cop (w w' : World) (c : Cells) (g1 g2 g3 : Nat) : Prop where
  v : w'.ownsRow w.heap.size 3 1 (.slice (some ⟨g1, 0, none⟩) c.V.length (c.V.length + 1)) c.V.length (cellsI c.V)
  n : w'.ownsRow w.heap.size 113 2 (.slice (some ⟨g2, 0, none⟩) c.N.length (c.N.length + 1)) c.N.length (cellsP c.N)
  m : w'.ownsRow w.heap.size 3 1 (.slice (some ⟨g3, 0, none⟩) c.M.length (c.M.length + 1)) c.M.length (cellsI c.M)
  d12 : g1 < g2
  d23 : g2 < g3
  lo : w.heap.size + 2 ≤ g1
  q : Q w w'
theorem Cop.out {w w' : World} {c : Cells} {g1 g2 g3 : Nat} (h : Cop w w' c g1 g2 g3) : Out w w' c g1 (c.V.length + 1) g2 (c.N.length + 1) g3 (c.M.length + 1) := by
  have := h.d12
  have := h.d23
  have := h.lo
  exact ⟨.of_row h.v, .of_row h.n, .of_row h.m, Nat.le_succ _, Nat.le_succ _, Nat.le_succ _, by omega, by omega, by omega, by omega, by omega, by omega, h.q⟩
def CopyOf (c : Cells) (w : World) (e : Ending) (w' : World) : Prop :=
  ∃ g1 g2 g3, e = .returned (.agg #[.slice (some ⟨g1, 0, none⟩) c.V.length (c.V.length + 1), .slice (some ⟨g2, 0, none⟩) c.N.length (c.N.length + 1), .slice (some ⟨g3, 0, none⟩) c.M.length (c.M.length + 1)]) ∧ Cop w w' c g1 g2 g3
theorem row_kept {w w' : World} {base base' : Nat} {e : TypeId} {size : Nat} {v : Value} {n : Nat} {xs : List Value} (h : w.ownsRow base e size v n xs) (q : Q w w') (hb : base' ≤ base) : w'.ownsRow base' e size v n xs := by
  have h2 := h.kept (row := none) (grows_q q none) (by cases v.ownBlock <;> simp)
  obtain ⟨a, b⟩ := h2
  refine ⟨a, ?_⟩
  rcases b with b | ⟨g, cap, cur, r1, r2, r⟩
  · exact .inl b
  · exact .inr ⟨g, cap, cur, r1, Nat.le_trans hb r2, r⟩
theorem row_far {w w' : World} {base : Nat} {e : TypeId} {size g n cap B : Nat} {xs : List Value} (h : w.ownsRow base e size (.slice (some ⟨g, 0, none⟩) n cap) n xs) (hg : w.grownBy w' (some B)) (hne : B ≠ g) : w'.ownsRow base e size (.slice (some ⟨g, 0, none⟩) n cap) n xs :=
  h.kept hg (.inr (by simp [Value.ownBlock]; exact fun e => hne e.symm))

set_option maxRecDepth 100000 in
set_option maxHeartbeats 2000000 in
theorem copyOf_any (c : Cells) (A D E : Option Addr) (n1 k1 n2 k2 n3 k3 : Nat) (w : World) (h1 : n1 = c.V.length) (h2 : n2 = c.N.length) (h3 : n3 = c.M.length) (h : Rd w c A k1 D k2 E k3) (hf : Few c 1000000) :
    Calls Tryz.prog 121 #[.agg #[.slice A n1 k1, .slice D n2 k2, .slice E n3 k3]] w (CopyOf c w) := by
  subst h1 h2 h3
  obtain ⟨f1, f2, f3⟩ := hf
  have q0 := ((Q.refl w).alloc (Obj.cells #[Value.slice A c.V.length k1, Value.slice D c.N.length k2, Value.slice E c.M.length k3] 29)).alloc (Obj.cells #[Value.slice none 0 0, Value.slice none 0 0, Value.slice none 0 0] 29)
  have HB := Lib.hid ((Box3.new w (Value.slice A c.V.length k1) (Value.slice D c.N.length k2) (Value.slice E c.M.length k3) 29).q ((Q.refl _).alloc (Obj.cells #[Value.slice none 0 0, Value.slice none 0 0, Value.slice none 0 0] 29)))
  have X := Box3.new (w.alloc (Obj.cells #[Value.slice A c.V.length k1, Value.slice D c.N.length k2, Value.slice E c.M.length k3] 29)) (Value.slice none 0 0) (Value.slice none 0 0) (Value.slice none 0 0) 29
  rw [World.size_alloc] at X
  have HX := Lib.hid X
  have HR := Lib.hid (h.q q0)
  clear h X
  go_enter Tryz.func121, Tryz.ntmps121
  go_upto_region 1 with fail
  have hz0 : ((w.alloc (Obj.cells #[Value.slice A c.V.length k1, Value.slice D c.N.length k2, Value.slice E c.M.length k3] 29)).alloc (Obj.cells #[Value.slice none 0 0, Value.slice none 0 0, Value.slice none 0 0] 29)).heap.size = w.heap.size + 2 := by simp
  generalize (w.alloc (Obj.cells #[Value.slice A c.V.length k1, Value.slice D c.N.length k2, Value.slice E c.M.length k3] 29)).alloc (Obj.cells #[Value.slice none 0 0, Value.slice none 0 0, Value.slice none 0 0] 29) = W0 at *
  have HZ := Lib.hid hz0
  clear hz0
  have HV : Hid (∀ W, Q W0 W → Calls Tryz.prog 151 #[.slice A c.V.length k1] W (CopyRow 3 1 c.V.length (cellsI c.V) W)) := fun W q => copyI_any A _ k1 c.V W rfl (HR.out.v.q q) f1
  have HN : Hid (∀ W, Q W0 W → Calls Tryz.prog 152 #[.slice D c.N.length k2] W (CopyRow 113 2 c.N.length (cellsP c.N) W)) := fun W q => copyP_any D _ k2 c.N W rfl (HR.out.n.q q) f2
  have HM : Hid (∀ W, Q W0 W → Calls Tryz.prog 151 #[.slice E c.M.length k3] W (CopyRow 3 1 c.M.length (cellsI c.M) W)) := fun W q => copyI_any E _ k3 c.M W rfl (HR.out.m.q q) f3
  have c0 := HB.out.c0
  have c1 := HB.out.c1
  have c2 := HB.out.c2
  have hlt0 := HB.out.lt
  go_region_held3 (fun w' => w'.cell? ⟨w.heap.size, 0, none⟩ = some (.slice A c.V.length k1) ∧ w'.cell? ⟨w.heap.size, 1, none⟩ = some (.slice D c.N.length k2) ∧ w'.cell? ⟨w.heap.size, 2, none⟩ = some (.slice E c.M.length k3))
    (first
      | go_keep
      | exact ⟨(p3.cell (p := ⟨w.heap.size, 0, none⟩) hlt0).trans c0, (p3.cell (p := ⟨w.heap.size, 1, none⟩) hlt0).trans c1, (p3.cell (p := ⟨w.heap.size, 2, none⟩) hlt0).trans c2⟩
      | exact ⟨(p2.cell (p := ⟨w.heap.size, 0, none⟩) hlt0).trans c0, (p2.cell (p := ⟨w.heap.size, 1, none⟩) hlt0).trans c1, (p2.cell (p := ⟨w.heap.size, 2, none⟩) hlt0).trans c2⟩
      | exact ⟨(p1.cell (p := ⟨w.heap.size, 0, none⟩) hlt0).trans c0, (p1.cell (p := ⟨w.heap.size, 1, none⟩) hlt0).trans c1, (p1.cell (p := ⟨w.heap.size, 2, none⟩) hlt0).trans c2⟩
      | exact (((HB.out.q p3).far (g := w.heap.size + 1) (by omega) _).far (g := w.heap.size + 1) (by omega) _).far (g := w.heap.size + 1) (by omega) _ |>.three)
    (first
      | (go_at_call 151; (with_reducible refine (HV.out _ (Q.refl W0).drew).mono ?_); rintro e w1 ⟨g1, rfl, own1, q1⟩; have Own1 := Lib.hid own1; clear own1; have p1 : Q W0 w1 := (Q.refl W0).drew.trans q1)
      | (go_at_call 152; (with_reducible refine (HN.out _ p1).mono ?_); rintro e w2 ⟨g2, rfl, own2, q2⟩; have Own2 := Lib.hid own2; clear own2; have p2 : Q W0 w2 := p1.trans q2)
      | (go_at_call 151; (with_reducible refine (HM.out _ p2).mono ?_); rintro e w3 ⟨g3, rfl, own3, q3⟩; have Own3 := Lib.hid own3; clear own3; have p3 : Q W0 w3 := p2.trans q3; have bx := HX.out.q p3; have y0 := bx.c0; have y1 := bx.c1; have y2 := bx.c2; have z0 := bx.f0; have z1 := bx.f1; have z2 := bx.f2))
  clear y0 y1 y2 z0 z1 z2 c0 c1 c2
  have bz := bx.all (.slice (some ⟨g1, 0, none⟩) c.V.length (c.V.length + 1)) (.slice (some ⟨g2, 0, none⟩) c.N.length (c.N.length + 1)) (.slice (some ⟨g3, 0, none⟩) c.M.length (c.M.length + 1))
  have y0 := bz.c0
  have y1 := bz.c1
  have y2 := bz.c2
  have hgr := Lib.hid (set3_grown w3 (w.heap.size + 1) (.slice (some ⟨g1, 0, none⟩) c.V.length (c.V.length + 1)) (.slice (some ⟨g2, 0, none⟩) c.N.length (c.N.length + 1)) (.slice (some ⟨g3, 0, none⟩) c.M.length (c.M.length + 1)))
  have e1 := (Own1.out.lt g1 rfl).1
  have e1' := (Own1.out.lt g1 rfl).2
  have e2 := (Own2.out.lt g2 rfl).1
  have e2' := (Own2.out.lt g2 rfl).2
  have e3 := (Own3.out.lt g3 rfl).1
  have hz := HZ.out
  have e0 : W0.heap.size ≤ g1 := e1
  go_wp2_with fail
  refine bodyPost_ret (v := .agg #[.slice (some ⟨g1, 0, none⟩) c.V.length (c.V.length + 1), .slice (some ⟨g2, 0, none⟩) c.N.length (c.N.length + 1), .slice (some ⟨g3, 0, none⟩) c.M.length (c.M.length + 1)]) (by simp [results, Tryz.f121, go_sem, y0, y1, y2]) rfl ⟨g1, g2, g3, rfl, ?_⟩
  exact ⟨row_far (row_kept (row_kept Own1.out q2 (by show w.heap.size ≤ W0.heap.size; omega)) q3 (Nat.le_refl _)) hgr.out (by omega), row_far (row_kept Own2.out q3 (by have := q1.size; have : W0.heap.size ≤ w1.heap.size := this; omega)) hgr.out (by have := q1.size; have : W0.heap.size ≤ w1.heap.size := this; omega),
    row_far (row_kept Own3.out (Q.refl _) (by have := p2.size; omega)) hgr.out (by have := p2.size; omega), by omega, by omega, by omega, grown_q hgr.out (q0.trans p3) (by omega)⟩
end Go.Proofs.YtjmopbimleoidaaGreat.Tr

namespace Go.Proofs.YtjmopbimleoidaaGreat.Uf
open Kit Tr

def rk (R : List Int) (n : Int) : Int := if 0 ≤ n ∧ n < R.length then R.getD n.toNat 0 else 0
def lessB (R : List Int) (a b : Int) : Bool := if rk R a = rk R b then decide (a < b) else decide (rk R a < rk R b)
theorem less_iff (R : List Int) (a b : Int) : lessB R a b = true ↔ rk R a < rk R b ∨ rk R a = rk R b ∧ a < b := by
  unfold lessB
  by_cases h : rk R a = rk R b
  · rw [if_pos h]; simp [h]
  · rw [if_neg h]; simp [h]
theorem less_self (R : List Int) (a : Int) : lessB R a a = false := by
  cases e : lessB R a a with
  | false => rfl
  | true => have := (less_iff R a a).1 e; omega
theorem less_trans {R : List Int} {a b c : Int} (h : lessB R a b = true) (k : lessB R b c = true) : lessB R a c = true := by
  rw [less_iff] at h k ⊢
  omega
theorem less_flip {R : List Int} {a b : Int} (h : a ≠ b) (k : lessB R a b = false) : lessB R b a = true := by
  have k' : ¬ lessB R a b = true := by rw [k]; simp
  rw [less_iff] at k' ⊢
  omega
theorem less_not {R : List Int} {a b : Int} (h : lessB R a b = true) : lessB R b a = false := by
  cases e : lessB R b a with
  | false => rfl
  | true => have := less_trans h e; rw [less_self] at this; cases this
/-- how many of the first L are ahead of n -/
def dep (R : List Int) (n : Nat) : Nat → Nat
  | 0 => 0
  | m + 1 => (if lessB R m n = true then 1 else 0) + dep R n m
theorem dep_le {R : List Int} {a b : Nat} (h : lessB R a b = true) : ∀ L, dep R a L ≤ dep R b L
  | 0 => Nat.le_refl _
  | m + 1 => by
    have := dep_le h m
    unfold dep
    by_cases e : lessB R m a = true
    · rw [if_pos e, if_pos (less_trans e h)]; omega
    · rw [if_neg e]; omega
theorem dep_lt {R : List Int} {a b : Nat} (h : lessB R a b = true) : ∀ {L}, a < L → dep R a L < dep R b L
  | 0, hL => absurd hL (by omega)
  | m + 1, hL => by
    unfold dep
    by_cases e : a = m
    · subst e
      rw [if_neg (by rw [less_self]; simp), if_pos h]
      have := dep_le h a
      omega
    · have := dep_lt h (L := m) (by omega)
      by_cases e : lessB R m a = true
      · rw [if_pos e, if_pos (less_trans e h)]; omega
      · rw [if_neg e]; omega
theorem dep_len (R : List Int) (n : Nat) : ∀ L, dep R n L ≤ L
  | 0 => Nat.le_refl _
  | m + 1 => by
    have := dep_len R n m
    unfold dep
    split <;> omega
theorem dep_in (R : List Int) {n : Nat} : ∀ {L}, n < L → dep R n L < L
  | 0, hL => absurd hL (by omega)
  | m + 1, hL => by
    unfold dep
    by_cases e : n = m
    · subst e
      rw [if_neg (by rw [less_self]; simp)]
      have := dep_len R n n
      omega
    · have := dep_in R (n := n) (L := m) (by omega)
      split <;> omega

def par (V : List Int) (n : Nat) : Nat := (V.getD n 0).toNat
/-- cells are classes -/
def Cl (R V : List Int) : Prop := ∀ n, n < V.length → ∃ p : Nat, p < V.length ∧ V[n]? = some (p : Int) ∧ (p = n ∨ lessB R p n = true)
theorem par_of {V : List Int} {n p : Nat} (h : V[n]? = some (p : Int)) : par V n = p := by
  unfold par
  rw [List.getD_eq_getElem?_getD, h]; rfl
theorem Cl.parent {R V : List Int} (h : Cl R V) {n : Nat} (hn : n < V.length) : par V n < V.length ∧ V[n]? = some (par V n : Int) ∧ (par V n = n ∨ lessB R (par V n) n = true) := by
  obtain ⟨p, h1, h2, h3⟩ := h n hn
  rw [par_of h2]
  exact ⟨h1, h2, h3⟩
theorem Cl.at {R V : List Int} (h : Cl R V) {n : Nat} (hn : n < V.length) : V[n] = (par V n : Int) := by
  have := (h.parent hn).2.1
  rw [List.getElem?_eq_getElem hn] at this
  injection this
/-- so many steps up -/
def root (V : List Int) : Nat → Nat → Nat
  | 0, n => n
  | k + 1, n => if par V n = n then n else root V k (par V n)
/-- the first one of n -/
def fst (V : List Int) (n : Nat) : Nat := root V V.length n
theorem Cl.ind {R V : List Int} (h : Cl R V) {P : Nat → Prop} (step : ∀ n, n < V.length → (par V n ≠ n → P (par V n)) → P n) : ∀ n, n < V.length → P n := by
  have : ∀ d n, n < V.length → dep R n V.length ≤ d → P n := fun d => by
    induction d with
    | zero =>
      intro n hn hd
      refine step n hn fun hne => ?_
      obtain ⟨h1, _, h3⟩ := h.parent hn
      have := dep_lt (h3.resolve_left hne) h1
      omega
    | succ d ih =>
      intro n hn hd
      refine step n hn fun hne => ?_
      obtain ⟨h1, _, h3⟩ := h.parent hn
      have := dep_lt (h3.resolve_left hne) h1
      exact ih _ h1 (by omega)
  exact fun n hn => this _ n hn (Nat.le_refl _)
theorem root_stay {V : List Int} {n : Nat} (h : par V n = n) : ∀ k, root V k n = n
  | 0 => rfl
  | k + 1 => by unfold root; rw [if_pos h]
theorem Cl.fuel {R V : List Int} (h : Cl R V) : ∀ {k k' n : Nat}, n < V.length → dep R n V.length ≤ k → dep R n V.length ≤ k' → root V k n = root V k' n
  | 0, k', n, hn, h1, _ => by
    have : par V n = n := by
      obtain ⟨p1, _, p3⟩ := h.parent hn
      rcases p3 with e | e
      · exact e
      · have := dep_lt e p1; omega
    rw [root_stay this, root_stay this]
  | k + 1, 0, n, hn, _, h2 => by
    have : par V n = n := by
      obtain ⟨p1, _, p3⟩ := h.parent hn
      rcases p3 with e | e
      · exact e
      · have := dep_lt e p1; omega
    rw [root_stay this, root_stay this]
  | k + 1, k' + 1, n, hn, h1, h2 => by
    unfold root
    by_cases e : par V n = n
    · rw [if_pos e, if_pos e]
    · rw [if_neg e, if_neg e]
      obtain ⟨p1, _, p3⟩ := h.parent hn
      have := dep_lt (p3.resolve_left e) p1
      exact h.fuel p1 (by omega) (by omega)
theorem Cl.fst_eq {R V : List Int} (h : Cl R V) {n : Nat} (hn : n < V.length) : fst V n = if par V n = n then n else fst V (par V n) := by
  unfold fst
  have hd := dep_in R hn
  obtain ⟨k, hk⟩ : ∃ k, V.length = k + 1 := ⟨V.length - 1, by omega⟩
  by_cases e : par V n = n
  · rw [if_pos e, root_stay e]
  · rw [if_neg e]
    obtain ⟨p1, _, p3⟩ := h.parent hn
    have hp := dep_lt (p3.resolve_left e) p1
    have e2 : root V V.length n = root V k (par V n) := by rw [hk]; show (if par V n = n then n else root V k (par V n)) = _; rw [if_neg e]
    rw [e2]
    exact h.fuel p1 (by omega) (by omega)
theorem Cl.fst_self {R V : List Int} (h : Cl R V) {n : Nat} (hn : n < V.length) (e : par V n = n) : fst V n = n := by rw [h.fst_eq hn, if_pos e]
theorem Cl.fst_up {R V : List Int} (h : Cl R V) {n : Nat} (hn : n < V.length) : fst V (par V n) = fst V n := by
  by_cases e : par V n = n
  · rw [e]
  · rw [h.fst_eq hn, if_neg e]
/-- a first one is there, is its own, and is ahead -/
theorem Cl.fst_in {R V : List Int} (h : Cl R V) : ∀ n, n < V.length → fst V n < V.length ∧ par V (fst V n) = fst V n ∧ (fst V n = n ∨ lessB R (fst V n) n = true) := by
  refine h.ind fun n hn ih => ?_
  by_cases e : par V n = n
  · rw [h.fst_self hn e]; exact ⟨hn, e, .inl rfl⟩
  · rw [← h.fst_up hn]
    obtain ⟨a, b, c⟩ := ih e
    have p3 := (h.parent hn).2.2.resolve_left e
    refine ⟨a, b, .inr ?_⟩
    rcases c with c | c
    · rw [c]; exact p3
    · exact less_trans c p3
theorem par_set {V : List Int} {i p n : Nat} (hi : i < V.length) : par (V.set i (p : Int)) n = if n = i then p else par V n := by
  unfold par
  by_cases e : n = i
  · subst e
    rw [if_pos rfl, List.getD_eq_getElem?_getD, List.getElem?_set_self hi]; rfl
  · rw [if_neg e, List.getD_eq_getElem?_getD, List.getD_eq_getElem?_getD, List.getElem?_set_ne (fun h => e h.symm)]
theorem Cl.set {R V : List Int} (h : Cl R V) {i p : Nat} (_hi : i < V.length) (hp : p < V.length) (hl : p = i ∨ lessB R p i = true) : Cl R (V.set i (p : Int)) := by
  intro n hn
  rw [List.length_set] at hn ⊢
  by_cases e : i = n
  · subst e
    exact ⟨p, hp, List.getElem?_set_self hn, hl⟩
  · rw [List.getElem?_set_ne e]
    exact h n hn
/-- two classes are joined: y's first one is x from now on -/
theorem Cl.join {R V : List Int} (h : Cl R V) {x y : Nat} (hx : x < V.length) (hy : y < V.length) (px : par V x = x) (py : par V y = y) (hl : lessB R x y = true) : Cl R (V.set y (x : Int)) ∧ ∀ n, n < V.length → fst (V.set y (x : Int)) n = if fst V n = y then x else fst V n := by
  have h' : Cl R (V.set y (x : Int)) := h.set hy hx (.inr hl)
  have hne : x ≠ y := fun e => by rw [e, less_self] at hl; cases hl
  refine ⟨h', ?_⟩
  have := h'.ind (P := fun n => fst (V.set y (x : Int)) n = if fst V n = y then x else fst V n) fun n hn ih => ?_
  · exact fun n hn => this n (by rw [List.length_set]; exact hn)
  · rw [h'.fst_eq hn]
    rw [List.length_set] at hn
    rw [par_set hy] at ih ⊢
    by_cases e : n = y
    · subst e
      rw [if_pos rfl] at ih ⊢
      rw [if_neg hne, ih hne, h.fst_self hx px, if_neg hne, h.fst_self hn py, if_pos rfl]
    · rw [if_neg e] at ih ⊢
      by_cases e2 : par V n = n
      · rw [if_pos e2, h.fst_self hn e2, if_neg e]
      · rw [if_neg e2, ih e2, h.fst_up hn]
theorem Cl.add {R V : List Int} (h : Cl R V) : Cl R (V ++ [(V.length : Int)]) := by
  intro n hn
  rw [List.length_append, List.length_singleton] at hn ⊢
  by_cases e : n < V.length
  · obtain ⟨p, h1, h2, h3⟩ := h n e
    exact ⟨p, by omega, by rw [List.getElem?_append_left e]; exact h2, h3⟩
  · obtain rfl : n = V.length := by omega
    exact ⟨V.length, by omega, by rw [List.getElem?_append_right (Nat.le_refl _)]; simp, .inl rfl⟩
def okB (R V : List Int) (n : Nat) : Bool := (V.getD n 0 == (n : Int)) || (decide (0 ≤ V.getD n 0) && decide (V.getD n 0 < V.length) && lessB R (V.getD n 0) n)
def clB (R V : List Int) : Bool := decide (∀ n, n < V.length → okB R V n = true)
theorem cl_of {R V : List Int} (h : clB R V = true) : Cl R V := by
  have h' := of_decide_eq_true h
  intro n hn
  have := h' n hn
  unfold okB at this
  have hv : V[n]? = some (V.getD n 0) := by rw [List.getD_eq_getElem?_getD, List.getElem?_eq_getElem hn]; rfl
  rcases (Bool.or_eq_true _ _).mp this with e | e
  · have e' := eq_of_beq e
    exact ⟨n, hn, by rw [hv, e'], .inl rfl⟩
  · rw [Bool.and_eq_true, Bool.and_eq_true] at e
    obtain ⟨⟨e1, e2⟩, e3⟩ := e
    have e1 := of_decide_eq_true e1
    have e2 := of_decide_eq_true e2
    obtain ⟨p, hp⟩ := Int.eq_ofNat_of_zero_le e1
    rw [hp] at hv e2 e3
    exact ⟨p, by omega, hv, .inr e3⟩
theorem cl_to {R V : List Int} (h : Cl R V) : clB R V = true := by
  refine decide_eq_true fun n hn => ?_
  obtain ⟨p, h1, h2, h3⟩ := h n hn
  have e : V.getD n 0 = (p : Int) := by rw [List.getD_eq_getElem?_getD, h2]; rfl
  unfold okB
  rw [e]
  rcases h3 with rfl | h3
  · simp
  · rw [h3, decide_eq_true (show (0 : Int) ≤ (p : Int) by omega), decide_eq_true (show (p : Int) < (V.length : Int) by omega)]
    simp

end Go.Proofs.YtjmopbimleoidaaGreat.Uf
