/-
  What the proofs lean on, part 5 of 25.
-/
import Derived.Test.YtdmdcggmgipdbaaGreatDoorPd
namespace Go.Proofs.YtdmdcggmgipdbaaGreatDoor.Tm
open Go.RowKit Kit Hs

/-- how many parts a constructor has -/
def arity (l : List Sg.Sig) (s : Int) : Int := ((l[s.toNat]?.getD (ByteArray.empty, ByteArray.empty)).2.size : Int)
def standB (l : List Sg.Sig) (t : Tm) : Bool :=
  if t.k = 2 then decide (0 ≤ t.s) && (t.p == 0) else if t.k = 3 then isPl t.s l.length && (t.p == 0) else if t.k = 6 then isPl t.s l.length && isPl t.p (arity l t.s) else (t.s == 0) && (t.p == 0)
def hasB (l : List Sg.Sig) (t : Tm) : Bool := if t.k = 3 then ((t.xs.length : Int) == arity l t.s) else isKindB t.k && ((t.xs.length : Int) == partsN t.k)
def allPl (xs : List Int) (many : Nat) : Bool := xs.all fun x => isPl x many
def mayB (l : List Sg.Sig) (many : Nat) (t : Tm) : Bool := standB l t && hasB l t && allPl t.xs many
theorem arity_at {l : List Sg.Sig} {i : Nat} (h : i < l.length) : arity l (i : Int) = (l[i].2.size : Int) := by simp [arity, h]
theorem isPl_quiet (x n : Int) (w : World) : Calls Tryz.prog 64 #[.int .i64 x, .int .i64 n] w fun e w' => e = .returned (.bool (isPl x n)) ∧ ∃ m, w' = w.drewN m := (isPlace_any x n w).mono fun _ _ ⟨he, hw⟩ => ⟨he, 0, hw.symm⟩

set_option maxRecDepth 100000 in
set_option maxHeartbeats 1000000 in
theorem mayStand_any (L E : Option Addr) (nl cl n c : Nat) (l : List Sg.Sig) (t : Tm) (w : World) (hnl : nl = l.length) (hr : Sg.Row w w.heap.size L l) :
    Calls Tryz.prog 107 #[.slice L nl cl, .agg #[.int .i64 t.k, .int .i64 t.s, .int .i64 t.p, .slice E n c]] w fun e w' => e = .returned (.bool (standB l t)) ∧ Q w w' := by
  subst hnl
  have q0 := (Q.refl w).alloc (Obj.cells #[.int .i64 t.k, .int .i64 t.s, .int .i64 t.p, .slice E n c] 77)
  by_cases k2 : t.k = 2
  · have HR : Hid (standB l t = (decide (0 ≤ t.s) && (t.p == 0))) := by unfold Hid standB; rw [if_pos k2]
    have e2 : (t.k == 2) = true := by simpa using k2
    clear hr k2
    cases hs : decide (0 ≤ t.s)
    all_goals
      rw [hs] at HR
      go_enter Tryz.func107, Tryz.ntmps107
      go_wp2_with fail
      go_ret
      exact ⟨by rw [HR.out]; rfl, q0⟩
  · have e2 : (t.k == 2) = false := by simpa using k2
    by_cases k3 : t.k = 3
    · have HR : Hid (standB l t = (isPl t.s l.length && (t.p == 0))) := by unfold Hid standB; rw [if_neg k2, if_pos k3]
      have e3 : (t.k == 3) = true := by simpa using k3
      clear hr k2 k3
      cases hs : isPl t.s l.length
      all_goals
        rw [hs] at HR
        go_enter Tryz.func107, Tryz.ntmps107
        go_wp2_with (go_at_call 64; refine (isPlace_any _ _ _).mono ?_; rintro e w' ⟨rfl, rfl⟩)
        go_ret
        exact ⟨by rw [HR.out]; rfl, q0⟩
    · have e3 : (t.k == 3) = false := by simpa using k3
      by_cases k6 : t.k = 6
      · have HR : Hid (standB l t = (isPl t.s l.length && isPl t.p (arity l t.s))) := by unfold Hid standB; rw [if_neg k2, if_neg k3, if_pos k6]
        have e6 : (t.k == 6) = true := by simpa using k6
        cases hs : isPl t.s l.length
        · rw [hs] at HR
          clear hr k2 k3 k6
          go_enter Tryz.func107, Tryz.ntmps107
          go_wp2_with fail
          have C : Hid (∀ m, Calls Tryz.prog 64 #[.int .i64 t.s, .int .i64 l.length] ((w.alloc (Obj.cells #[.int .i64 t.k, .int .i64 t.s, .int .i64 t.p, .slice E n c] 77)).drewN m) fun e w' => e = .returned (.bool false) ∧ ∃ m', w' = ((w.alloc (Obj.cells #[.int .i64 t.k, .int .i64 t.s, .int .i64 t.p, .slice E n c] 77)).drewN m).drewN m') := fun m => by have := isPl_quiet t.s l.length ((w.alloc (Obj.cells #[.int .i64 t.k, .int .i64 t.s, .int .i64 t.p, .slice E n c] 77)).drewN m); rw [hs] at this; exact this
          go_quiet (first | (go_at_call 64; with_reducible exact Calls.quiet_of (C.out _)))
          go_wp2_with fail
          go_ret
          exact ⟨by rw [HR.out]; rfl, q0.drewN _⟩
        · rw [hs] at HR
          obtain ⟨h0, h1⟩ := (isPl_iff _ _).1 hs
          obtain ⟨i, hi⟩ := Int.eq_ofNat_of_zero_le h0
          have hlt : i < l.length := by omega
          rw [hi] at HR hs h0 h1 q0
          rw [arity_at hlt] at HR
          obtain ⟨ad, rfl, hb, _, c1⟩ := hr.at_ hlt
          have c1' := (q0.cell (p := ⟨(ad.add (i * 2)).block, (ad.add (i * 2)).off + 1, none⟩) (by show (ad.add (i * 2)).block < _; rw [add_block]; exact hb)).trans c1
          obtain ⟨k, s, p, xs⟩ := t
          obtain rfl : s = (i : Int) := hi
          clear hr k2 k3 k6 c1
          go_enter Tryz.func107, Tryz.ntmps107
          go_wp2_with fail
          have C : Hid (∀ m, Calls Tryz.prog 64 #[.int .i64 (i : Int), .int .i64 l.length] ((w.alloc (Obj.cells #[.int .i64 k, .int .i64 (i : Int), .int .i64 p, .slice E n c] 77)).drewN m) fun e w' => e = .returned (.bool true) ∧ ∃ m', w' = ((w.alloc (Obj.cells #[.int .i64 k, .int .i64 (i : Int), .int .i64 p, .slice E n c] 77)).drewN m).drewN m') := fun m => by have := isPl_quiet i l.length ((w.alloc (Obj.cells #[.int .i64 k, .int .i64 (i : Int), .int .i64 p, .slice E n c] 77)).drewN m); rw [hs] at this; exact this
          have C2 : Hid (∀ m, Calls Tryz.prog 64 #[.int .i64 p, .int .i64 l[i].2.size] ((w.alloc (Obj.cells #[.int .i64 k, .int .i64 (i : Int), .int .i64 p, .slice E n c] 77)).drewN m) fun e w' => e = .returned (.bool (isPl p l[i].2.size)) ∧ ∃ m', w' = ((w.alloc (Obj.cells #[.int .i64 k, .int .i64 (i : Int), .int .i64 p, .slice E n c] 77)).drewN m).drewN m') := fun m => isPl_quiet _ _ _
          go_quiet (first | (go_at_call 64; with_reducible exact Calls.quiet_of (C.out _)) | (go_at_call 64; with_reducible exact Calls.quiet_of (C2.out _)))
          go_wp2_with fail
          go_ret
          exact ⟨by rw [HR.out]; rfl, q0.drewN _⟩
      · have HR : Hid (standB l t = ((t.s == 0) && (t.p == 0))) := by unfold Hid standB; rw [if_neg k2, if_neg k3, if_neg k6]
        have e6 : (t.k == 6) = false := by simpa using k6
        clear hr k2 k3 k6
        cases hs : (t.s == 0)
        all_goals
          rw [hs] at HR
          go_enter Tryz.func107, Tryz.ntmps107
          go_wp2_with fail
          go_ret
          exact ⟨by rw [HR.out]; rfl, q0⟩
end Go.Proofs.YtdmdcggmgipdbaaGreatDoor.Tm

namespace Go.Proofs.YtdmdcggmgipdbaaGreatDoor.Tm
open Go.RowKit Kit Hs

set_option maxRecDepth 100000 in
set_option maxHeartbeats 1000000 in
theorem hasItsParts_any (L E : Option Addr) (nl cl n c : Nat) (l : List Sg.Sig) (t : Tm) (w : World) (hnl : nl = l.length) (hr : Sg.Row w w.heap.size L l) (hn : n = t.xs.length) (hw : Wf t.k) (hst : standB l t = true) :
    Calls Tryz.prog 108 #[.slice L nl cl, .agg #[.int .i64 t.k, .int .i64 t.s, .int .i64 t.p, .slice E n c]] w fun e w' => e = .returned (.bool (hasB l t)) ∧ Q w w' := by
  subst hnl
  have q0 := (Q.refl w).alloc (Obj.cells #[.int .i64 t.k, .int .i64 t.s, .int .i64 t.p, .slice E n c] 77)
  by_cases k3 : t.k = 3
  · have hs : isPl t.s l.length = true := by
      unfold standB at hst
      rw [if_neg (by omega), if_pos k3] at hst
      simp only [Bool.and_eq_true] at hst
      exact hst.1
    have HR : Hid (hasB l t = ((n : Int) == arity l t.s)) := by unfold Hid hasB; rw [if_pos k3, hn]
    have e3 : (t.k == 3) = true := by simpa using k3
    obtain ⟨h0, h1⟩ := (isPl_iff _ _).1 hs
    obtain ⟨i, hi⟩ := Int.eq_ofNat_of_zero_le h0
    have hlt : i < l.length := by omega
    rw [hi] at HR h0 h1 q0
    rw [arity_at hlt] at HR
    obtain ⟨ad, rfl, hb, _, c1⟩ := hr.at_ hlt
    have c1' := (q0.cell (p := ⟨(ad.add (i * 2)).block, (ad.add (i * 2)).off + 1, none⟩) (by show (ad.add (i * 2)).block < _; rw [add_block]; exact hb)).trans c1
    obtain ⟨k, s, p, xs⟩ := t
    obtain rfl : s = (i : Int) := hi
    have c1d : (((w.alloc (Obj.cells #[.int .i64 k, .int .i64 (i : Int), .int .i64 p, .slice E n c] 77)).cell? ⟨(ad.add (i * 2)).block, (ad.add (i * 2)).off + 1, none⟩) = some (.string l[i].2)) := c1'
    clear hr k3 c1 c1' hn hst hs
    go_enter Tryz.func108, Tryz.ntmps108
    go_wp2_with fail
    go_quiet (fail)
    go_wp2_with fail
    go_ret
    exact ⟨by rw [HR.out]; rfl, q0.drewN _⟩
  · have e3 : (t.k == 3) = false := by simpa using k3
    have HR : Hid (hasB l t = (isKindB t.k && ((n : Int) == partsN t.k))) := by unfold Hid hasB; rw [if_neg k3, hn]
    clear hr k3 hn hst
    have X := Box4.new w (.int .i64 t.k) (.int .i64 t.s) (.int .i64 t.p) (.slice E n c) 77
    go_enter Tryz.func108, Tryz.ntmps108
    go_wp2_with fail
    generalize w.alloc (Obj.cells #[.int .i64 t.k, .int .i64 t.s, .int .i64 t.p, .slice E n c] 77) = W0 at *
    have HX := Lib.hid X
    have x0 := X.c0
    have xl := X.lt
    clear X
    go_region_held3 (fun w' => w'.cell? ⟨w.heap.size, 0, none⟩ = some (.int .i64 t.k))
      (first
        | go_keep
        | exact (p1.cell (p := ⟨w.heap.size, 0, none⟩) xl).trans x0)
      (first
        | (go_at_call 118; refine (parts_any _).mono ?_; rintro e w1 ⟨B, rfl, q1, hL⟩; have p1 := (Q.refl W0).drew.trans q1; have hlk := hL w1 (Q.refl _) t.k hw; clear hL))
    have z0 := (HX.out.q p1).c3
    clear hlk
    cases hk : isKindB t.k
    all_goals
      rw [hk] at HR
      go_wp2_with fail
      go_ret
      exact ⟨by rw [HR.out]; rfl, q0.trans p1⟩

theorem allPl_at (xs : List Int) (m k : Nat) (h : k < xs.length) : allPl (xs.drop k) m = (isPl xs[k] m && allPl (xs.drop (k + 1)) m) := by
  rw [List.drop_eq_getElem_cons h]; rfl
theorem allPl_end (xs : List Int) (m k : Nat) (h : xs.length ≤ k) : allPl (xs.drop k) m = true := by
  rw [List.drop_eq_nil_of_le h]; rfl

set_option maxRecDepth 100000 in
set_option maxHeartbeats 1000000 in
theorem may_any (L A S E : Option Addr) (nl cl na ca m d n c : Nat) (l : List Sg.Sig) (t : Tm) (w : World) (hnl : nl = l.length) (hr : Sg.Row w w.heap.size L l) (hn : n = t.xs.length) (he : Ints w w.heap.size E t.xs) (hw : Wf t.k) (hl : t.xs.length ≤ maxLen) :
    Calls Tryz.prog 99 #[.slice L nl cl, .agg #[.slice A na ca, .slice S m d], .agg #[.int .i64 t.k, .int .i64 t.s, .int .i64 t.p, .slice E n c]] w fun e w' => e = .returned (.bool (mayB l na t)) ∧ Q w w' := by
  subst hnl
  unfold maxLen at hl
  have q0 := ((Q.refl w).alloc (Obj.cells #[Value.slice A na ca, Value.slice S m d] 26)).alloc (Obj.cells #[.int .i64 t.k, .int .i64 t.s, .int .i64 t.p, .slice E n c] 77)
  have Hr := Lib.hid ((hr.q (Nat.le_refl _) q0).more q0.size)
  have He := Lib.hid ((he.q (Nat.le_refl _) q0).more q0.size)
  have X := Box4.new (w.alloc (Obj.cells #[Value.slice A na ca, Value.slice S m d] 26)) (.int .i64 t.k) (.int .i64 t.s) (.int .i64 t.p) (.slice E n c) 77
  rw [World.size_alloc] at X
  have HX := Lib.hid X
  have HB := Lib.hid ((BoxT.new w (Value.slice A na ca) (Value.slice S m d) 26).q ((Q.refl _).alloc (Obj.cells #[.int .i64 t.k, .int .i64 t.s, .int .i64 t.p, .slice E n c] 77)))
  have Hn := Lib.hid hn
  have HM : Hid (mayB l na t = (standB l t && hasB l t && allPl t.xs na)) := rfl
  clear hr he X hn
  go_enter Tryz.func99, Tryz.ntmps99
  go_wp2_with fail
  generalize (w.alloc (Obj.cells #[Value.slice A na ca, Value.slice S m d] 26)).alloc (Obj.cells #[.int .i64 t.k, .int .i64 t.s, .int .i64 t.p, .slice E n c] 77) = W0 at *
  refine (mayStand_any _ _ _ _ _ _ l t _ rfl Hr.out).mono ?_
  rintro e w1 ⟨rfl, q1⟩
  have HX1 := Lib.hid (HX.out.q q1)
  have x0 := HX1.out.c0
  have x1 := HX1.out.c1
  have x2 := HX1.out.c2
  have x3 := HX1.out.c3
  cases hst : standB l t
  · rw [hst] at HM
    go_wp2_with fail
    go_ret
    exact ⟨by rw [HM.out]; rfl, q0.trans q1⟩
  · have Hst := Lib.hid hst
    rw [hst] at HM
    go_wp2_with fail
    refine (hasItsParts_any _ _ _ _ _ _ l t _ rfl ((Hr.out.q (Nat.le_refl _) q1).more q1.size) Hn.out hw Hst.out).mono ?_
    rintro e w2 ⟨rfl, q2⟩
    have q12 := q1.trans q2
    clear x0 x1 x2 x3
    have HX2 := Lib.hid (HX.out.q q12)
    have x3 := HX2.out.c3
    have b0 := (HB.out.q q12).c0
    cases hha : hasB l t
    · rw [hha] at HM
      go_wp2_with fail
      go_ret
      exact ⟨by rw [HM.out]; rfl, q0.trans q12⟩
    · rw [hha] at HM
      have HM2 : Hid (mayB l na t = allPl t.xs na) := by unfold Hid; rw [HM.out]; rfl
      obtain ⟨N, hN⟩ : ∃ N, N = t.xs.length := ⟨_, rfl⟩
      obtain rfl : n = N := by rw [hN]; exact Hn.out
      have He2 := Lib.hid ((He.out.q (Nat.le_refl _) q12).more q12.size)
      have HN := Lib.hid hN
      rw [← hN] at hl
      clear hN hst hha
      go_wp2_with fail
      go_loopw [8, 22] (fun _ i wr => ∃ k : Nat, k ≤ n ∧ i = .int .i64 k ∧ Hid (allPl t.xs na = allPl (t.xs.drop k) na) ∧ w2 = wr) (fun _ i _ => n - (intOf i).toNat)
      case atStart => exact ⟨0, Nat.zero_le _, rfl, Lib.hid rfl, rfl⟩
      case round =>
        obtain ⟨k, hk, rfl, HF, rfl⟩ := hrel
        by_cases hlt : k < n
        · have hltx : k < t.xs.length := by have := HN.out; omega
          obtain ⟨ad, rfl, hb, c0⟩ := He2.out.at_ hltx
          have HS := Lib.hid (allPl_at t.xs na k hltx)
          cases hp : isPl t.xs[k] na
          · have HS' : Hid (allPl (t.xs.drop k) na = false) := by unfold Hid; rw [HS.out, hp]; rfl
            have C := isPlace_any t.xs[k] na w2
            rw [hp] at C
            have HC := Lib.hid C
            clear C hp
            go_wp2_with (go_at_call 64; refine HC.out.mono ?_; rintro e w' ⟨rfl, rfl⟩)
            go_ret
            exact ⟨by rw [HM2.out, HF.out, HS'.out]; rfl, q0.trans q12⟩
          · have HS' : Hid (allPl (t.xs.drop k) na = allPl (t.xs.drop (k + 1)) na) := by unfold Hid; rw [HS.out, hp]; rfl
            have C := isPlace_any t.xs[k] na w2
            rw [hp] at C
            have HC := Lib.hid C
            clear C hp
            go_wp2_with (go_at_call 64; refine HC.out.mono ?_; rintro e w' ⟨rfl, rfl⟩)
            go_roundw
            case rel => exact ⟨k + 1, by omega, by go_num, Lib.hid (HF.out.trans HS'.out), trivial⟩
            case measure => simp [intOf]; omega
        · have HS := Lib.hid (allPl_end t.xs na k (by have := HN.out; omega))
          go_wp2_with fail
          go_ret
          exact ⟨by rw [HM2.out, HF.out, HS.out]; rfl, q0.trans q12⟩
end Go.Proofs.YtdmdcggmgipdbaaGreatDoor.Tm

namespace Go.Proofs.YtdmdcggmgipdbaaGreatDoor.Tm
open Go.RowKit Kit Hs

set_option maxRecDepth 100000 in
set_option maxHeartbeats 2000000 in
theorem refmay_any (L E : Option Addr) (nl cl n c many : Nat) (l : List Sg.Sig) (t : Tm) (w : World) (hnl : nl = l.length) (hr : Sg.Row w w.heap.size L l) (hn : n = t.xs.length) (he : Ints w w.heap.size E t.xs) (hl : t.xs.length ≤ maxLen) :
    Calls Tryz.prog 51 #[.slice L nl cl, .int .i64 (many : Int), .agg #[.int .i64 t.k, .int .i64 t.s, .int .i64 t.p, .slice E n c]] w fun e w' => e = .returned (.bool (mayB l many t)) ∧ Q w w' := by
  subst hnl
  unfold maxLen at hl
  have q0 := (Q.refl w).alloc (Obj.cells #[.int .i64 t.k, .int .i64 t.s, .int .i64 t.p, .slice E n c] 77)
  have Hr := Lib.hid ((hr.q (Nat.le_refl _) q0).more q0.size)
  have He := Lib.hid ((he.q (Nat.le_refl _) q0).more q0.size)
  have X := Box4.new w (.int .i64 t.k) (.int .i64 t.s) (.int .i64 t.p) (.slice E n c) 77
  have HM : Hid (mayB l many t = (standB l t && hasB l t && allPl t.xs many)) := rfl
  have HN := Lib.hid hn
  rw [← hn] at hl
  clear hr he hn
  go_enter Tryz.func51, Tryz.ntmps51
  go_wp2_with fail
  generalize w.alloc (Obj.cells #[.int .i64 t.k, .int .i64 t.s, .int .i64 t.p, .slice E n c] 77) = W0 at *
  have x0 := X.c0
  have x1 := X.c1
  have x2 := X.c2
  have x3 := X.c3
  clear X
  go_loopw [7] (fun i wr => ∃ k : Nat, k ≤ n ∧ i = .int .i64 k ∧ Hid (allPl t.xs many = allPl (t.xs.drop k) many) ∧ W0 = wr) (fun i _ => n - (intOf i).toNat)
  case atStart => exact ⟨0, Nat.zero_le _, rfl, Lib.hid rfl, rfl⟩
  case round =>
    obtain ⟨k, hk, rfl, HF, rfl⟩ := hrel
    by_cases hlt : k < n
    · have hltx : k < t.xs.length := by have := HN.out; omega
      obtain ⟨ad, rfl, hb, c0⟩ := He.out.at_ hltx
      have HS := Lib.hid (allPl_at t.xs many k hltx)
      have HP : Hid (isPl t.xs[k] many = (decide (0 ≤ t.xs[k]) && decide (t.xs[k] < (many : Int)))) := rfl
      by_cases h0 : t.xs[k] < 0
      · have d0 : decide (t.xs[k] < 0) = true := decide_eq_true h0
        have HS' : Hid (allPl (t.xs.drop k) many = false) := by unfold Hid; rw [HS.out, HP.out, decide_eq_false (by omega : ¬ 0 ≤ t.xs[k])]; rfl
        clear h0
        go_wp2_with fail
        go_ret
        exact ⟨by rw [HM.out, HF.out, HS'.out, Bool.and_false]; rfl, q0⟩
      · have d0 : decide (t.xs[k] < 0) = false := decide_eq_false h0
        by_cases h1 : (many : Int) ≤ t.xs[k]
        · have d1 : decide ((many : Int) ≤ t.xs[k]) = true := decide_eq_true h1
          have HS' : Hid (allPl (t.xs.drop k) many = false) := by unfold Hid; rw [HS.out, HP.out, decide_eq_false (by omega : ¬ t.xs[k] < (many : Int)), Bool.and_false]; rfl
          clear h0 h1
          go_wp2_with fail
          go_ret
          exact ⟨by rw [HM.out, HF.out, HS'.out, Bool.and_false]; rfl, q0⟩
        · have d1 : decide ((many : Int) ≤ t.xs[k]) = false := decide_eq_false h1
          have HS' : Hid (allPl (t.xs.drop k) many = allPl (t.xs.drop (k + 1)) many) := by unfold Hid; rw [HS.out, HP.out, decide_eq_true (by omega : 0 ≤ t.xs[k]), decide_eq_true (by omega : t.xs[k] < (many : Int))]; rfl
          clear h0 h1
          go_wp2_with fail
          go_roundw
          case rel => exact ⟨k + 1, by omega, by go_num, Lib.hid (HF.out.trans HS'.out), trivial⟩
          case measure => simp [intOf]; omega
    · have HS := Lib.hid (allPl_end t.xs many k (by have := HN.out; omega))
      have HM2 : Hid (mayB l many t = (standB l t && hasB l t)) := by unfold Hid; rw [HM.out, HF.out, HS.out, Bool.and_true]
      clear HM HF HS He
      go_upto_region 7 with fail
      go_cut [9] (fun f wx => f = .bool (isPl t.s l.length) ∧ W0 = wx)
      case first =>
        by_cases h0 : 0 ≤ t.s
        · have d0 : decide (0 ≤ t.s) = true := decide_eq_true h0
          go_wp2_with fail
          all_goals go_meet
          all_goals exact ⟨congrArg Value.bool (by unfold isPl; rw [decide_eq_true h0]; rfl), rfl⟩
        · have d0 : decide (0 ≤ t.s) = false := decide_eq_false h0
          clear h0
          go_wp2_with fail
          all_goals go_meet
          all_goals exact ⟨congrArg Value.bool (by unfold isPl; rw [d0]; rfl), rfl⟩
      case rest =>
        obtain ⟨rfl, rfl⟩ := hcut
        have hA : ∀ (i : Nat), t.s = (i : Int) → i < l.length → ∃ ad, L = some ad ∧ W0.cell? ⟨(ad.add (i * 2)).block, (ad.add (i * 2)).off + 1, none⟩ = some (.string (l[i]?.getD (ByteArray.empty, ByteArray.empty)).2) := fun i _ hi => by
          obtain ⟨ad, e, _, _, c1⟩ := Hr.out.at_ hi
          exact ⟨ad, e, by rw [List.getElem?_eq_getElem hi]; exact c1⟩
        have HA := Lib.hid hA
        have HN' : Hid ((t.xs.length : Int) = (n : Int)) := by unfold Hid; rw [HN.out]
        clear hA Hr hlt hk HN
        by_cases k0 : t.k = 0
        · have f0 : (t.k == 0) = true := by simpa using k0
          have HK : Hid (standB l t = ((t.s == 0) && (t.p == 0))) := by unfold Hid standB; rw [if_neg (by omega), if_neg (by omega), if_neg (by omega)]
          have HH : Hid (hasB l t = ((n : Int) == 0)) := by unfold Hid hasB; rw [if_neg (by omega), HN'.out, k0]; rfl
          clear k0 HA
          cases s0 : (t.s == 0)
          · have HR : Hid (mayB l many t = false) := by unfold Hid; rw [HM2.out, HK.out, s0]; rfl
            go_wp2_with fail
            go_ret
            exact ⟨by rw [HR.out]; rfl, q0⟩
          · cases p0 : (t.p == 0)
            · have HR : Hid (mayB l many t = false) := by unfold Hid; rw [HM2.out, HK.out, s0, p0]; rfl
              go_wp2_with fail
              go_ret
              exact ⟨by rw [HR.out]; rfl, q0⟩
            · have HR : Hid (mayB l many t = ((n : Int) == 0)) := by unfold Hid; rw [HM2.out, HK.out, HH.out, s0, p0]; rfl
              go_wp2_with fail
              go_ret
              exact ⟨by rw [HR.out]; first | rfl | simp, q0⟩
        have f0 : (t.k == 0) = false := by simpa using k0
        by_cases k1 : t.k = 1
        · have f1 : (t.k == 1) = true := by simpa using k1
          have HK : Hid (standB l t = ((t.s == 0) && (t.p == 0))) := by unfold Hid standB; rw [if_neg (by omega), if_neg (by omega), if_neg (by omega)]
          have HH : Hid (hasB l t = ((n : Int) == 0)) := by unfold Hid hasB; rw [if_neg (by omega), HN'.out, k1]; rfl
          clear k0 k1 HA
          cases s0 : (t.s == 0)
          · have HR : Hid (mayB l many t = false) := by unfold Hid; rw [HM2.out, HK.out, s0]; rfl
            go_wp2_with fail
            go_ret
            exact ⟨by rw [HR.out]; rfl, q0⟩
          · cases p0 : (t.p == 0)
            · have HR : Hid (mayB l many t = false) := by unfold Hid; rw [HM2.out, HK.out, s0, p0]; rfl
              go_wp2_with fail
              go_ret
              exact ⟨by rw [HR.out]; rfl, q0⟩
            · have HR : Hid (mayB l many t = ((n : Int) == 0)) := by unfold Hid; rw [HM2.out, HK.out, HH.out, s0, p0]; rfl
              go_wp2_with fail
              go_ret
              exact ⟨by rw [HR.out]; first | rfl | simp, q0⟩
        have f1 : (t.k == 1) = false := by simpa using k1
        by_cases k2 : t.k = 2
        · have f2 : (t.k == 2) = true := by simpa using k2
          have HK : Hid (standB l t = (decide (0 ≤ t.s) && (t.p == 0))) := by unfold Hid standB; rw [if_pos k2]
          have HH : Hid (hasB l t = ((n : Int) == 0)) := by unfold Hid hasB; rw [if_neg (by omega), HN'.out, k2]; rfl
          clear k0 k1 k2 HA
          cases s0 : decide (0 ≤ t.s)
          · have HR : Hid (mayB l many t = false) := by unfold Hid; rw [HM2.out, HK.out, s0]; rfl
            go_wp2_with fail
            go_ret
            exact ⟨by rw [HR.out]; rfl, q0⟩
          · cases p0 : (t.p == 0)
            · have HR : Hid (mayB l many t = false) := by unfold Hid; rw [HM2.out, HK.out, s0, p0]; rfl
              go_wp2_with fail
              go_ret
              exact ⟨by rw [HR.out]; rfl, q0⟩
            · have HR : Hid (mayB l many t = ((n : Int) == 0)) := by unfold Hid; rw [HM2.out, HK.out, HH.out, s0, p0]; rfl
              go_wp2_with fail
              go_ret
              exact ⟨by rw [HR.out]; first | rfl | simp, q0⟩
        have f2 : (t.k == 2) = false := by simpa using k2
        by_cases k3 : t.k = 3
        · have f3 : (t.k == 3) = true := by simpa using k3
          have HK : Hid (standB l t = (isPl t.s l.length && (t.p == 0))) := by unfold Hid standB; rw [if_neg (by omega), if_pos k3]
          have HH : Hid (hasB l t = ((n : Int) == arity l t.s)) := by unfold Hid hasB; rw [if_pos k3, HN'.out]
          clear k0 k1 k2 k3
          cases s0 : isPl t.s l.length
          · have HR : Hid (mayB l many t = false) := by unfold Hid; rw [HM2.out, HK.out, s0]; rfl
            go_wp2_with fail
            go_ret
            exact ⟨by rw [HR.out]; rfl, q0⟩
          · cases p0 : (t.p == 0)
            · have HR : Hid (mayB l many t = false) := by unfold Hid; rw [HM2.out, HK.out, s0, p0]; rfl
              go_wp2_with fail
              go_ret
              exact ⟨by rw [HR.out]; rfl, q0⟩
            · have HR : Hid (mayB l many t = ((n : Int) == arity l t.s)) := by unfold Hid; rw [HM2.out, HK.out, HH.out, s0, p0]; rfl
              obtain ⟨h0, h1⟩ := (isPl_iff _ _).1 s0
              obtain ⟨i, hi⟩ := Int.eq_ofNat_of_zero_le h0
              have hli : i < l.length := by omega
              obtain ⟨ad, rfl, c1⟩ := HA.out i hi hli
              rw [List.getElem?_eq_getElem hli, Option.getD_some] at c1
              have HE : Hid (mayB l many t = ((n : Int) == (l[i].2.size : Int))) := by unfold Hid; rw [HR.out, hi, arity_at hli]
              rw [hi] at x1 h0 h1 s0
              clear hi
              go_wp2_with fail
              go_ret
              exact ⟨by rw [HE.out]; first | rfl | simp, q0⟩
        have f3 : (t.k == 3) = false := by simpa using k3
        by_cases k4 : t.k = 4
        · have f4 : (t.k == 4) = true := by simpa using k4
          have HK : Hid (standB l t = ((t.s == 0) && (t.p == 0))) := by unfold Hid standB; rw [if_neg (by omega), if_neg (by omega), if_neg (by omega)]
          have HH : Hid (hasB l t = ((n : Int) == 2)) := by unfold Hid hasB; rw [if_neg (by omega), HN'.out, k4]; rfl
          clear k0 k1 k2 k3 k4 HA
          cases s0 : (t.s == 0)
          · have HR : Hid (mayB l many t = false) := by unfold Hid; rw [HM2.out, HK.out, s0]; rfl
            go_wp2_with fail
            go_ret
            exact ⟨by rw [HR.out]; rfl, q0⟩
          · cases p0 : (t.p == 0)
            · have HR : Hid (mayB l many t = false) := by unfold Hid; rw [HM2.out, HK.out, s0, p0]; rfl
              go_wp2_with fail
              go_ret
              exact ⟨by rw [HR.out]; rfl, q0⟩
            · have HR : Hid (mayB l many t = ((n : Int) == 2)) := by unfold Hid; rw [HM2.out, HK.out, HH.out, s0, p0]; rfl
              go_wp2_with fail
              go_ret
              exact ⟨by rw [HR.out]; first | rfl | simp, q0⟩
        have f4 : (t.k == 4) = false := by simpa using k4
        by_cases k5 : t.k = 5
        · have f5 : (t.k == 5) = true := by simpa using k5
          have HK : Hid (standB l t = ((t.s == 0) && (t.p == 0))) := by unfold Hid standB; rw [if_neg (by omega), if_neg (by omega), if_neg (by omega)]
          have HH : Hid (hasB l t = ((n : Int) == 2)) := by unfold Hid hasB; rw [if_neg (by omega), HN'.out, k5]; rfl
          clear k0 k1 k2 k3 k4 k5 HA
          cases s0 : (t.s == 0)
          · have HR : Hid (mayB l many t = false) := by unfold Hid; rw [HM2.out, HK.out, s0]; rfl
            go_wp2_with fail
            go_ret
            exact ⟨by rw [HR.out]; rfl, q0⟩
          · cases p0 : (t.p == 0)
            · have HR : Hid (mayB l many t = false) := by unfold Hid; rw [HM2.out, HK.out, s0, p0]; rfl
              go_wp2_with fail
              go_ret
              exact ⟨by rw [HR.out]; rfl, q0⟩
            · have HR : Hid (mayB l many t = ((n : Int) == 2)) := by unfold Hid; rw [HM2.out, HK.out, HH.out, s0, p0]; rfl
              go_wp2_with fail
              go_ret
              exact ⟨by rw [HR.out]; first | rfl | simp, q0⟩
        have f5 : (t.k == 5) = false := by simpa using k5
        by_cases k6 : t.k = 6
        · have f6 : (t.k == 6) = true := by simpa using k6
          have HK : Hid (standB l t = (isPl t.s l.length && isPl t.p (arity l t.s))) := by unfold Hid standB; rw [if_neg (by omega), if_neg (by omega), if_pos k6]
          have HH : Hid (hasB l t = ((n : Int) == 1)) := by unfold Hid hasB; rw [if_neg (by omega), HN'.out, k6]; rfl
          clear k0 k1 k2 k3 k4 k5 k6
          cases s0 : isPl t.s l.length
          · have HR : Hid (mayB l many t = false) := by unfold Hid; rw [HM2.out, HK.out, s0]; rfl
            go_wp2_with fail
            go_quiet (fail)
            go_wp2_with fail
            go_ret
            exact ⟨by rw [HR.out]; rfl, q0.drewN _⟩
          · obtain ⟨h0, h1⟩ := (isPl_iff _ _).1 s0
            obtain ⟨i, hi⟩ := Int.eq_ofNat_of_zero_le h0
            have hli : i < l.length := by omega
            obtain ⟨ad, rfl, c1⟩ := HA.out i hi hli
            rw [List.getElem?_eq_getElem hli, Option.getD_some] at c1
            have HE : Hid (mayB l many t = (isPl t.p (l[i].2.size : Int) && ((n : Int) == 1))) := by unfold Hid; rw [HM2.out, HK.out, HH.out, s0, hi, arity_at hli]; rfl
            rw [hi] at x1 h0 h1 s0
            clear hi
            by_cases p0 : 0 ≤ t.p
            · have d0 : decide (0 ≤ t.p) = true := decide_eq_true p0
              cases p1 : decide (t.p < (l[i].2.size : Int))
              · have HR : Hid (mayB l many t = false) := by unfold Hid; rw [HE.out, isPl, p1, Bool.and_false]; rfl
                clear p0
                go_wp2_with fail
                go_quiet (fail)
                go_wp2_with fail
                go_ret
                exact ⟨by rw [HR.out]; rfl, q0.drewN _⟩
              · have HR : Hid (mayB l many t = ((n : Int) == 1)) := by unfold Hid; rw [HE.out, isPl, p1, d0]; rfl
                clear p0
                go_wp2_with fail
                go_quiet (fail)
                go_wp2_with fail
                go_ret
                exact ⟨by rw [HR.out]; first | rfl | simp, q0.drewN _⟩
            · have d0 : decide (0 ≤ t.p) = false := decide_eq_false p0
              have HR : Hid (mayB l many t = false) := by unfold Hid; rw [HE.out, isPl, d0]; rfl
              clear p0
              go_wp2_with fail
              go_quiet (fail)
              go_wp2_with fail
              go_ret
              exact ⟨by rw [HR.out]; rfl, q0.drewN _⟩
        have f6 : (t.k == 6) = false := by simpa using k6
        have HR : Hid (mayB l many t = false) := by
          unfold Hid
          rw [HM2.out, hasB, if_neg k3, isKindB, f0, f1, f2, f4, f5, f6]
          exact Bool.and_false _
        clear k0 k1 k2 k3 k4 k5 k6 HA
        go_wp2_with fail
        go_ret
        exact ⟨by rw [HR.out]; rfl, q0⟩

end Go.Proofs.YtdmdcggmgipdbaaGreatDoor.Tm

namespace Go.Proofs.YtdmdcggmgipdbaaGreatDoor.Tm
open Go.RowKit Kit Hs

def keyOk (l : List Sg.Sig) (key : List Int) (i : Nat) : Bool := decide (3 ≤ key.length) && mayB l i (ofKey key) && !(decide (i < 2) && ((ofKey key).k != (i : Int)))
def stF (l : List Sg.Sig) : List (List Int) → Nat → Bool
  | [], _ => true
  | k :: r, i => keyOk l k i && stF l r (i + 1)
def storeB (l : List Sg.Sig) (ks : List (List Int)) (sl : List Int) : Bool := rightB ks sl && decide (2 ≤ ks.length) && stF l ks 0
theorem stF_at (l : List Sg.Sig) (ks : List (List Int)) (i : Nat) (h : i < ks.length) : stF l (ks.drop i) i = (keyOk l ks[i] i && stF l (ks.drop (i + 1)) (i + 1)) := by
  rw [List.drop_eq_getElem_cons h]; rfl
theorem stF_end (l : List Sg.Sig) (ks : List (List Int)) (i : Nat) (h : ks.length ≤ i) : stF l (ks.drop i) i = true := by
  rw [List.drop_eq_nil_of_le h]; rfl
theorem stF_get {l : List Sg.Sig} : ∀ {ks : List (List Int)} {j : Nat}, stF l ks j = true → ∀ (i : Nat) (key : List Int), ks[i]? = some key → keyOk l key (j + i) = true
  | [], _, _, i, key, h => by simp at h
  | k :: r, j, h, i, key, hk => by
    simp only [stF, Bool.and_eq_true] at h
    cases i with
    | zero => obtain rfl : k = key := by simpa using hk
              exact h.1
    | succ i => have := stF_get h.2 i key (by simpa using hk)
                rwa [show j + 1 + i = j + (i + 1) by omega] at this
theorem stF_of {l : List Sg.Sig} : ∀ {ks : List (List Int)} {j : Nat}, (∀ (i : Nat) (key : List Int), ks[i]? = some key → keyOk l key (j + i) = true) → stF l ks j = true
  | [], _, _ => rfl
  | k :: r, j, h => by
    simp only [stF, Bool.and_eq_true]
    refine ⟨h 0 k rfl, stF_of fun i key hk => ?_⟩
    have := h (i + 1) key (by simpa using hk)
    rwa [show j + (i + 1) = j + 1 + i by omega] at this
/-- a store -/
structure Store (l : List Sg.Sig) (ks : List (List Int)) : Prop where
  dist : Dist ks
  two : 2 ≤ ks.length
  ok : ∀ (i : Nat) (key : List Int), ks[i]? = some key → keyOk l key i = true
theorem store_iff (l : List Sg.Sig) (ks : List (List Int)) (sl : List Int) : storeB l ks sl = true ↔ Store l ks ∧ sl = layI ks := by
  unfold storeB
  rw [Bool.and_eq_true, Bool.and_eq_true, decide_eq_true_eq, right_iff]
  constructor
  · rintro ⟨⟨⟨h1, h2⟩, h3⟩, h4⟩
    exact ⟨⟨h1, h3, fun i key hk => by have := stF_get h4 i key hk; rwa [Nat.zero_add] at this⟩, h2⟩
  · rintro ⟨⟨h1, h3, h4⟩, h2⟩
    exact ⟨⟨⟨h1, h2⟩, h3⟩, stF_of fun i key hk => by rw [Nat.zero_add]; exact h4 i key hk⟩
theorem ofKey_at {key : List Int} (h3 : 3 ≤ key.length) : ofKey key = ⟨key[0], key[1], key[2], key.drop 3⟩ := by
  have h0 : 0 < key.length := by omega
  have h1 : 1 < key.length := by omega
  have h2 : 2 < key.length := by omega
  simp [ofKey, h0, h1, h2]

set_option maxRecDepth 100000 in
set_option maxHeartbeats 2000000 in
theorem refRight3_any (L A S : Option Addr) (nl cl n c m d : Nat) (l : List Sg.Sig) (ks : List (List Int)) (sl : List Int) (w : World) (hnl : nl = l.length) (hr : Sg.Row w w.heap.size L l) (hn : n = ks.length) (hm : m = sl.length) (hk : Keys w w.heap.size A ks) (hS : Ints w w.heap.size S sl)
    (hs : ∀ k ∈ ks, k.length ≤ maxLen) (hl : ks.length ≤ 5000) (hsl : sl.length ≤ maxLen) :
    Calls Tryz.prog 23 #[.slice L nl cl, .agg #[.slice A n c, .slice S m d]] w fun e w' => e = .returned (.bool (storeB l ks sl)) ∧ Q w w' := by
  subst hnl
  subst hn
  subst hm
  have q0 := (Q.refl w).alloc (Obj.cells #[Value.slice A ks.length c, Value.slice S sl.length d] 26)
  have Hr := Lib.hid ((hr.q (Nat.le_refl _) q0).more q0.size)
  have Hk := Lib.hid ((hk.q (Nat.le_refl _) q0).more q0.size)
  have HS := Lib.hid ((hS.q (Nat.le_refl _) q0).more q0.size)
  have HB := Lib.hid (BoxT.new w (Value.slice A ks.length c) (Value.slice S sl.length d) 26)
  have HsM := Lib.hid hs
  have HD : Hid (storeB l ks sl = (rightB ks sl && decide (2 ≤ ks.length) && stF l ks 0)) := rfl
  clear hr hk hS hs
  go_enter Tryz.func23, Tryz.ntmps23
  go_wp2_with fail
  generalize w.alloc (Obj.cells #[Value.slice A ks.length c, Value.slice S sl.length d] 26) = W0 at *
  refine (refRight_any _ _ _ _ _ _ ks sl _ rfl rfl Hk.out HS.out HsM.out hl hsl).mono ?_
  rintro e w1 ⟨rfl, q1⟩
  have HB1 := Lib.hid (HB.out.q q1)
  have b0 := HB1.out.c0
  cases hR : rightB ks sl
  · rw [hR] at HD
    go_wp2_with fail
    go_ret
    exact ⟨by rw [HD.out]; rfl, q0.trans q1⟩
  · rw [hR] at HD
    by_cases h2 : 2 ≤ ks.length
    · have d2 : decide ((ks.length : Int) < 2) = false := decide_eq_false (by omega)
      have HD2 : Hid (storeB l ks sl = stF l ks 0) := by unfold Hid; rw [HD.out, decide_eq_true h2]; rfl
      have Hr1 := Lib.hid ((Hr.out.q (Nat.le_refl _) q1).more q1.size)
      have Hk1 := Lib.hid ((Hk.out.q (Nat.le_refl _) q1).more q1.size)
      have q01 := q0.trans q1
      clear b0 hR HD
      have b0 := HB1.out.c0
      go_wp2_with fail
      go_loopw [6, 7, 8] (fun i _ _ wr => ∃ k : Nat, k ≤ ks.length ∧ i = .int .i64 k ∧ Hid (stF l ks 0 = stF l (ks.drop k) k) ∧ Q w1 wr) (fun i _ _ _ => ks.length - (intOf i).toNat)
      case atStart => exact ⟨0, Nat.zero_le _, rfl, Lib.hid rfl, Q.refl _⟩
      case round =>
        obtain ⟨k, hkl, rfl, HF, qr⟩ := hrel
        clear b0
        have HBr := Lib.hid (HB1.out.q qr)
        have b0 := HBr.out.c0
        have b1 := HBr.out.c1
        by_cases hlt : k < ks.length
        · have HS1 := Lib.hid (stF_at l ks k hlt)
          have Hkr := Lib.hid ((Hk1.out.q (Nat.le_refl _) qr).more qr.size)
          by_cases h3 : 3 ≤ ks[k].length
          · have HT := Lib.hid (termAt_at hlt h3)
            obtain ⟨t, ht⟩ : ∃ t, ofKey ks[k] = t := ⟨_, rfl⟩
            rw [ht] at HT
            have HK : Hid (keyOk l ks[k] k = (mayB l k t && !(decide (k < 2) && (t.k != (k : Int))))) := by unfold Hid keyOk; rw [decide_eq_true h3, ht]; rfl
            have Hl : Hid (t.xs.length ≤ maxLen) := by unfold Hid; rw [← ht]; have := HsM.out _ (List.getElem_mem hlt); simp [ofKey]; omega
            clear ht h3
            go_wp2_with fail
            refine (refOf_any _ _ _ _ _ _ ks k _ rfl Hkr.out).mono ?_
            rintro e w2 ⟨A1, n1, c1, rfl, hn1, hA1, q2⟩
            rw [HT.out] at hn1 hA1 ⊢
            simp only [Option.getD_some, Option.isSome_some] at hn1 hA1 ⊢
            have Hn1 := Lib.hid hn1
            have q23 := q2.alloc (Obj.cells #[.int .i64 t.k, .int .i64 t.s, .int .i64 t.p, .slice A1 n1 c1] 77)
            have q3 := (Q.refl w2).alloc (Obj.cells #[.int .i64 t.k, .int .i64 t.s, .int .i64 t.p, .slice A1 n1 c1] 77)
            have HA1 := Lib.hid ((hA1.q (Nat.le_refl _) q3).more q3.size)
            have X := Box4.new w2 (.int .i64 t.k) (.int .i64 t.s) (.int .i64 t.p) (.slice A1 n1 c1) 77
            have qr3 := qr.trans q23
            have HX := Lib.hid X
            clear hn1 hA1 X b0 b1
            go_wp2_with fail
            generalize w2.alloc (Obj.cells #[.int .i64 t.k, .int .i64 t.s, .int .i64 t.p, .slice A1 n1 c1] 77) = W3 at *
            refine (refmay_any _ _ _ _ _ _ k l t _ rfl ((Hr1.out.q (Nat.le_refl _) qr3).more qr3.size) Hn1.out HA1.out Hl.out).mono ?_
            rintro e w4 ⟨rfl, q4⟩
            have qr4 := qr3.trans q4
            have x0 := (HX.out.q q4).c0
            cases hM : mayB l k t
            · have HR : Hid (storeB l ks sl = false) := by unfold Hid; rw [HD2.out, HF.out, HS1.out, HK.out, hM]; rfl
              go_wp2_with fail
              go_ret
              exact ⟨by rw [HR.out]; rfl, q01.trans qr4⟩
            · by_cases hk2 : k < 2
              · have d3 : decide ((k : Int) < 2) = true := decide_eq_true (by omega)
                cases hne : (t.k != (k : Int))
                · have HR : Hid (stF l (ks.drop k) k = stF l (ks.drop (k + 1)) (k + 1)) := by unfold Hid; rw [HS1.out, HK.out, hM, hne, Bool.and_false]; rfl
                  clear hk2
                  go_wp2_with fail
                  go_roundw
                  case rel => exact ⟨k + 1, by omega, by go_num, Lib.hid (HF.out.trans HR.out), qr4⟩
                  case measure => simp [intOf]; omega
                · have HR : Hid (storeB l ks sl = false) := by unfold Hid; rw [HD2.out, HF.out, HS1.out, HK.out, hM, hne, decide_eq_true hk2]; rfl
                  clear hk2
                  go_wp2_with fail
                  go_ret
                  exact ⟨by rw [HR.out]; rfl, q01.trans qr4⟩
              · have d3 : decide ((k : Int) < 2) = false := decide_eq_false (by omega)
                have HR : Hid (stF l (ks.drop k) k = stF l (ks.drop (k + 1)) (k + 1)) := by unfold Hid; rw [HS1.out, HK.out, hM, decide_eq_false hk2]; rfl
                clear hk2
                go_wp2_with fail
                go_roundw
                case rel => exact ⟨k + 1, by omega, by go_num, Lib.hid (HF.out.trans HR.out), qr4⟩
                case measure => simp [intOf]; omega
          · have HT := Lib.hid (termAt_short hlt (Nat.lt_of_not_le h3))
            have HR : Hid (storeB l ks sl = false) := by unfold Hid; rw [HD2.out, HF.out, HS1.out, keyOk, decide_eq_false h3]; rfl
            clear h3
            go_wp2_with fail
            refine (refOf_any _ _ _ _ _ _ ks k _ rfl Hkr.out).mono ?_
            rintro e w2 ⟨A1, n1, c1, rfl, hn1, hA1, q2⟩
            rw [HT.out]
            simp only [Option.getD_none, Option.isSome_none, Tm.none]
            have q23 := q2.alloc (Obj.cells #[.int .i64 0, .int .i64 0, .int .i64 0, .slice A1 n1 c1] 77)
            clear hn1 hA1 b0 b1
            go_wp2_with fail
            go_ret
            exact ⟨by rw [HR.out]; rfl, q01.trans (qr.trans q23)⟩
        · have HS1 := Lib.hid (stF_end l ks k (by omega))
          go_wp2_with fail
          go_ret
          exact ⟨by rw [HD2.out, HF.out, HS1.out]; rfl, q01.trans qr⟩
    · have d2 : decide ((ks.length : Int) < 2) = true := decide_eq_true (by omega)
      have HD2 : Hid (storeB l ks sl = false) := by unfold Hid; rw [HD.out, decide_eq_false h2]; rfl
      go_wp2_with fail
      go_ret
      exact ⟨by rw [HD2.out]; rfl, q0.trans q1⟩
end Go.Proofs.YtdmdcggmgipdbaaGreatDoor.Tm
