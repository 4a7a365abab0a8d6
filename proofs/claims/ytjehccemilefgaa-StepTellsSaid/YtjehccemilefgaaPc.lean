/-
  What the proofs lean on, part 3 of 11.
-/
import Derived.Test.YtjehccemilefgaaPa
import Derived.Test.YtjehccemilefgaaPb
import Derived.Maps.Own
import Derived.Maps.OwnOps
import Derived.Maps.OwnSet
import Derived.Outline
import Derived.Laws.Append
import Derived.Laws.MakeOwn
import Derived.Laws.CopyOwn
import Derived.Laws.OwnMore
import Derived.OwnWalk
import Derived.Deep.RegionHeld
namespace Go.Proofs.Ytjehccemilefgaa.Tm
open Go.RowKit Kit Hs Go.Maps

def isKindB (k : Int) : Bool := (k == 0) || (k == 1) || (k == 2) || (k == 4) || (k == 5) || (k == 6)
def partsN (k : Int) : Int := if k = 4 then 2 else if k = 5 then 2 else if k = 6 then 1 else 0
def Wf (k : Int) : Prop := -9223372036854775808 ≤ k ∧ k ≤ 9223372036854775807
theorem Wf.lit {k : Int} (h : Wf k) : (Lit.int .i64 k).wf = true := WalkArith.wf_i64 h

theorem lawI : Keyed Try.prog 3 := int_keyed Try.underlying3
theorem zeroI (w : World) : (zeroValue 3).run Try.prog w = .ok (.int .i64 0) w := by kernel_rfl
def D6 : DataW Unit := ((((((.map [] : DataW Unit).put (.int .i64 0) (.lit (.int .i64 0))).put (.int .i64 1) (.lit (.int .i64 0))).put (.int .i64 2) (.lit (.int .i64 0))).put (.int .i64 4) (.lit (.int .i64 2))).put (.int .i64 5) (.lit (.int .i64 2))).put (.int .i64 6) (.lit (.int .i64 1))
theorem D6_eq : D6 = .map [(.int .i64 0, .lit (.int .i64 0)), (.int .i64 1, .lit (.int .i64 0)), (.int .i64 2, .lit (.int .i64 0)), (.int .i64 4, .lit (.int .i64 2)), (.int .i64 5, .lit (.int .i64 2)), (.int .i64 6, .lit (.int .i64 1))] := rfl
theorem D6_has (k : Int) : Maps.has D6 (.int .i64 k) = isKindB k := by
  rw [D6_eq, Maps.has_eq]
  rw [Bool.eq_iff_iff]
  simp [Lit.sameKey, isKindB]
  omega
theorem D6_at (k : Int) : D6.atKey (.int .i64 k) (.lit (.int .i64 0)) = .lit (.int .i64 (partsN k)) := by
  rw [D6_eq]
  unfold DataW.atKey partsN
  simp only [List.find?_cons, Lit.sameKey, true_and, List.find?_nil]
  by_cases h0 : 0 = k
  · subst h0; rfl
  by_cases h1 : 1 = k
  · subst h1; rfl
  by_cases h2 : 2 = k
  · subst h2; rfl
  by_cases h4 : 4 = k
  · subst h4; rfl
  by_cases h5 : 5 = k
  · subst h5; rfl
  by_cases h6 : 6 = k
  · subst h6; rfl
  have e4 : ¬ k = 4 := fun e => h4 e.symm
  have e5 : ¬ k = 5 := fun e => h5 e.symm
  have e6 : ¬ k = 6 := fun e => h6 e.symm
  simp [h0, h1, h2, h4, h5, h6, e4, e5, e6]

def PartsPost (w : World) (e : Ending) (w' : World) : Prop :=
  ∃ B, e = .returned (.map (some B)) ∧ Q w w' ∧ ∀ W, Q w' W → ∀ k, Wf k → (Instr.lookup 117 (.map (some B)) (.int .i64 k) true).run Try.prog W = .ok (.tuple #[.int .i64 (partsN k), .bool (isKindB k)]) W
theorem parts_close {w w' : World} {B n : Nat} (h : w'.ownsMap Try.prog 3 (plainElem Try.prog 3) B n D6) (q : Q w w') : PartsPost w (.returned (.map (some B))) w' := by
  refine ⟨B, rfl, q, fun W hW k hk => ?_⟩
  have hlt := h.lt
  obtain ⟨es, clock, hb, F, hs, hD⟩ := h
  have h' : W.ownsMap Try.prog 3 (plainElem Try.prog 3) B n D6 := ⟨es, clock, (hW.block B hlt).trans hb, F, hs, hD⟩
  obtain ⟨v, ps, hrun, hv⟩ := h'.look_ok lawI Try.underlying117 (zeroI W) (plainElem_int Try.underlying3 (by decide)) (keyOf_int_mk Try.underlying3 hk.lit)
  obtain ⟨c, rfl, hc, _⟩ := plainElem_int_inv Try.underlying3 hv
  rw [D6_at] at hc
  simp only [Prod.mk.injEq, DataW.lit.injEq, Lit.int.injEq, true_and] at hc
  rw [hrun, D6_has, hc.1]

set_option maxRecDepth 100000 in
set_option maxHeartbeats 1000000 in
theorem parts_any (w : World) : Calls Try.prog 84 #[] w (PartsPost w) := by
  have hmm := @run_makeMap Try.prog
  have o0 := World.ownsMap_made w Try.prog 3 (plainElem (H := Unit) Try.prog 3)
  have q0 := (Q.refl w).alloc (.map #[] 0)
  obtain ⟨w1, e1, o1, g1⟩ := o0.update (val := .int .i64 0) lawI Try.underlying117 (by unfold maxLen; omega) (keyOf_int_mk Try.underlying3 (a := 0) (by decide)) (plainElem_int Try.underlying3 (by decide))
  obtain ⟨w2, e2, o2, g2⟩ := o1.update (val := .int .i64 0) lawI Try.underlying117 (by unfold maxLen; omega) (keyOf_int_mk Try.underlying3 (a := 1) (by decide)) (plainElem_int Try.underlying3 (by decide))
  obtain ⟨w3, e3, o3, g3⟩ := o2.update (val := .int .i64 0) lawI Try.underlying117 (by unfold maxLen; omega) (keyOf_int_mk Try.underlying3 (a := 2) (by decide)) (plainElem_int Try.underlying3 (by decide))
  obtain ⟨w4, e4, o4, g4⟩ := o3.update (val := .int .i64 2) lawI Try.underlying117 (by unfold maxLen; omega) (keyOf_int_mk Try.underlying3 (a := 4) (by decide)) (plainElem_int Try.underlying3 (by decide))
  obtain ⟨w5, e5, o5, g5⟩ := o4.update (val := .int .i64 2) lawI Try.underlying117 (by unfold maxLen; omega) (keyOf_int_mk Try.underlying3 (a := 5) (by decide)) (plainElem_int Try.underlying3 (by decide))
  obtain ⟨w6, e6, o6, g6⟩ := o5.update (val := .int .i64 1) lawI Try.underlying117 (by unfold maxLen; omega) (keyOf_int_mk Try.underlying3 (a := 6) (by decide)) (plainElem_int Try.underlying3 (by decide))
  have q1 : Q w w1 := q0.grown g1 (by simp) (by intro b hb; cases hb; exact Nat.le_refl _)
  have q2 : Q w w2 := q1.grown g2 q1.size (by intro b hb; cases hb; exact Nat.le_refl _)
  have q3 : Q w w3 := q2.grown g3 q2.size (by intro b hb; cases hb; exact Nat.le_refl _)
  have q4 : Q w w4 := q3.grown g4 q3.size (by intro b hb; cases hb; exact Nat.le_refl _)
  have q5 : Q w w5 := q4.grown g5 q4.size (by intro b hb; cases hb; exact Nat.le_refl _)
  have q6 : Q w w6 := q5.grown g6 q5.size (by intro b hb; cases hb; exact Nat.le_refl _)
  have H6 := Lib.hid o6
  clear o0 o1 o2 o3 o4 o5 o6 g1 g2 g3 g4 g5 g6 q0 q1 q2 q3 q4 q5
  go_enter Try.func84, Try.ntmps84
  go_wp2_with fail
  go_ret
  exact parts_close H6.out q6
end Go.Proofs.Ytjehccemilefgaa.Tm

namespace Go.Proofs.Ytjehccemilefgaa.Tm
open Go.RowKit Kit Hs

/-- how many parts a constructor has -/
def arity (l : List Sg.Sig) (s : Int) : Int := ((l[s.toNat]?.getD (ByteArray.empty, ByteArray.empty)).2.size : Int)
def standB (l : List Sg.Sig) (t : Tm) : Bool :=
  if t.k = 2 then decide (0 ≤ t.s) && (t.p == 0) else if t.k = 3 then isPl t.s l.length && (t.p == 0) else if t.k = 6 then isPl t.s l.length && isPl t.p (arity l t.s) else (t.s == 0) && (t.p == 0)
def hasB (l : List Sg.Sig) (t : Tm) : Bool := if t.k = 3 then ((t.xs.length : Int) == arity l t.s) else isKindB t.k && ((t.xs.length : Int) == partsN t.k)
def allPl (xs : List Int) (many : Nat) : Bool := xs.all fun x => isPl x many
def mayB (l : List Sg.Sig) (many : Nat) (t : Tm) : Bool := standB l t && hasB l t && allPl t.xs many
theorem arity_at {l : List Sg.Sig} {i : Nat} (h : i < l.length) : arity l (i : Int) = (l[i].2.size : Int) := by simp [arity, h]
theorem isPl_quiet (x n : Int) (w : World) : Calls Try.prog 70 #[.int .i64 x, .int .i64 n] w fun e w' => e = .returned (.bool (isPl x n)) ∧ ∃ m, w' = w.drewN m := (isPlace_any x n w).mono fun _ _ ⟨he, hw⟩ => ⟨he, 0, hw.symm⟩

set_option maxRecDepth 100000 in
set_option maxHeartbeats 1000000 in
theorem mayStand_any (L E : Option Addr) (nl cl n c : Nat) (l : List Sg.Sig) (t : Tm) (w : World) (hnl : nl = l.length) (hr : Sg.Row w w.heap.size L l) :
    Calls Try.prog 68 #[.slice L nl cl, .agg #[.int .i64 t.k, .int .i64 t.s, .int .i64 t.p, .slice E n c]] w fun e w' => e = .returned (.bool (standB l t)) ∧ Q w w' := by
  subst hnl
  have q0 := (Q.refl w).alloc (Obj.cells #[.int .i64 t.k, .int .i64 t.s, .int .i64 t.p, .slice E n c] 60)
  by_cases k2 : t.k = 2
  · have HR : Hid (standB l t = (decide (0 ≤ t.s) && (t.p == 0))) := by unfold Hid standB; rw [if_pos k2]
    have e2 : (t.k == 2) = true := by simpa using k2
    clear hr k2
    cases hs : decide (0 ≤ t.s)
    all_goals
      rw [hs] at HR
      go_enter Try.func68, Try.ntmps68
      go_wp2_with fail
      go_ret
      exact ⟨by rw [HR.out]; rfl, q0⟩
  · have e2 : (t.k == 2) = false := by simpa using k2
    by_cases k3 : t.k = 3
    · have HR : Hid (standB l t = (isPl t.s l.length && (t.p == 0))) := by unfold Hid standB; rw [if_neg k2, if_pos k3]
      have e3 : (t.k == 3) = true := by simpa using k3
      clear hr k2 k3
      cases hs : isPl t.s l.length
      all_goals
        rw [hs] at HR
        go_enter Try.func68, Try.ntmps68
        go_wp2_with (go_at_call 70; refine (isPlace_any _ _ _).mono ?_; rintro e w' ⟨rfl, rfl⟩)
        go_ret
        exact ⟨by rw [HR.out]; rfl, q0⟩
    · have e3 : (t.k == 3) = false := by simpa using k3
      by_cases k6 : t.k = 6
      · have HR : Hid (standB l t = (isPl t.s l.length && isPl t.p (arity l t.s))) := by unfold Hid standB; rw [if_neg k2, if_neg k3, if_pos k6]
        have e6 : (t.k == 6) = true := by simpa using k6
        cases hs : isPl t.s l.length
        · rw [hs] at HR
          clear hr k2 k3 k6
          go_enter Try.func68, Try.ntmps68
          go_wp2_with fail
          have C : Hid (∀ m, Calls Try.prog 70 #[.int .i64 t.s, .int .i64 l.length] ((w.alloc (Obj.cells #[.int .i64 t.k, .int .i64 t.s, .int .i64 t.p, .slice E n c] 60)).drewN m) fun e w' => e = .returned (.bool false) ∧ ∃ m', w' = ((w.alloc (Obj.cells #[.int .i64 t.k, .int .i64 t.s, .int .i64 t.p, .slice E n c] 60)).drewN m).drewN m') := fun m => by have := isPl_quiet t.s l.length ((w.alloc (Obj.cells #[.int .i64 t.k, .int .i64 t.s, .int .i64 t.p, .slice E n c] 60)).drewN m); rw [hs] at this; exact this
          go_quiet (first | (go_at_call 70; with_reducible exact Calls.quiet_of (C.out _)))
          go_wp2_with fail
          go_ret
          exact ⟨by rw [HR.out]; rfl, q0.drewN _⟩
        · rw [hs] at HR
          obtain ⟨h0, h1⟩ := (isPl_iff _ _).1 hs
          obtain ⟨i, hi⟩ := Int.eq_ofNat_of_zero_le h0
          have hlt : i < l.length := by omega
          rw [hi] at HR hs h0 h1 q0
          rw [arity_at hlt] at HR
          obtain ⟨ad, rfl, hb, _, c1⟩ := hr.at_ hlt
          have c1' := (q0.cell (p := ⟨(ad.add (i * 2)).block, (ad.add (i * 2)).off + 1, none⟩) (by show (ad.add (i * 2)).block < _; rw [add_block]; exact hb)).trans c1
          obtain ⟨k, s, p, xs⟩ := t
          obtain rfl : s = (i : Int) := hi
          clear hr k2 k3 k6 c1
          go_enter Try.func68, Try.ntmps68
          go_wp2_with fail
          have C : Hid (∀ m, Calls Try.prog 70 #[.int .i64 (i : Int), .int .i64 l.length] ((w.alloc (Obj.cells #[.int .i64 k, .int .i64 (i : Int), .int .i64 p, .slice E n c] 60)).drewN m) fun e w' => e = .returned (.bool true) ∧ ∃ m', w' = ((w.alloc (Obj.cells #[.int .i64 k, .int .i64 (i : Int), .int .i64 p, .slice E n c] 60)).drewN m).drewN m') := fun m => by have := isPl_quiet i l.length ((w.alloc (Obj.cells #[.int .i64 k, .int .i64 (i : Int), .int .i64 p, .slice E n c] 60)).drewN m); rw [hs] at this; exact this
          have C2 : Hid (∀ m, Calls Try.prog 70 #[.int .i64 p, .int .i64 l[i].2.size] ((w.alloc (Obj.cells #[.int .i64 k, .int .i64 (i : Int), .int .i64 p, .slice E n c] 60)).drewN m) fun e w' => e = .returned (.bool (isPl p l[i].2.size)) ∧ ∃ m', w' = ((w.alloc (Obj.cells #[.int .i64 k, .int .i64 (i : Int), .int .i64 p, .slice E n c] 60)).drewN m).drewN m') := fun m => isPl_quiet _ _ _
          go_quiet (first | (go_at_call 70; with_reducible exact Calls.quiet_of (C.out _)) | (go_at_call 70; with_reducible exact Calls.quiet_of (C2.out _)))
          go_wp2_with fail
          go_ret
          exact ⟨by rw [HR.out]; rfl, q0.drewN _⟩
      · have HR : Hid (standB l t = ((t.s == 0) && (t.p == 0))) := by unfold Hid standB; rw [if_neg k2, if_neg k3, if_neg k6]
        have e6 : (t.k == 6) = false := by simpa using k6
        clear hr k2 k3 k6
        cases hs : (t.s == 0)
        all_goals
          rw [hs] at HR
          go_enter Try.func68, Try.ntmps68
          go_wp2_with fail
          go_ret
          exact ⟨by rw [HR.out]; rfl, q0⟩
end Go.Proofs.Ytjehccemilefgaa.Tm

namespace Go.Proofs.Ytjehccemilefgaa.Tm
open Go.RowKit Kit Hs

set_option maxRecDepth 100000 in
set_option maxHeartbeats 1000000 in
theorem hasItsParts_any (L E : Option Addr) (nl cl n c : Nat) (l : List Sg.Sig) (t : Tm) (w : World) (hnl : nl = l.length) (hr : Sg.Row w w.heap.size L l) (hn : n = t.xs.length) (hw : Wf t.k) (hst : standB l t = true) :
    Calls Try.prog 69 #[.slice L nl cl, .agg #[.int .i64 t.k, .int .i64 t.s, .int .i64 t.p, .slice E n c]] w fun e w' => e = .returned (.bool (hasB l t)) ∧ Q w w' := by
  subst hnl
  have q0 := (Q.refl w).alloc (Obj.cells #[.int .i64 t.k, .int .i64 t.s, .int .i64 t.p, .slice E n c] 60)
  by_cases k3 : t.k = 3
  · have hs : isPl t.s l.length = true := by
      unfold standB at hst
      rw [if_neg (by omega), if_pos k3] at hst
      simp only [Bool.and_eq_true] at hst
      exact hst.1
    have HR : Hid (hasB l t = ((n : Int) == arity l t.s)) := by unfold Hid hasB; rw [if_pos k3, hn]
    have e3 : (t.k == 3) = true := by simpa using k3
    obtain ⟨h0, h1⟩ := (isPl_iff _ _).1 hs
    obtain ⟨i, hi⟩ := Int.eq_ofNat_of_zero_le h0
    have hlt : i < l.length := by omega
    rw [hi] at HR h0 h1 q0
    rw [arity_at hlt] at HR
    obtain ⟨ad, rfl, hb, _, c1⟩ := hr.at_ hlt
    have c1' := (q0.cell (p := ⟨(ad.add (i * 2)).block, (ad.add (i * 2)).off + 1, none⟩) (by show (ad.add (i * 2)).block < _; rw [add_block]; exact hb)).trans c1
    obtain ⟨k, s, p, xs⟩ := t
    obtain rfl : s = (i : Int) := hi
    have c1d : (((w.alloc (Obj.cells #[.int .i64 k, .int .i64 (i : Int), .int .i64 p, .slice E n c] 60)).cell? ⟨(ad.add (i * 2)).block, (ad.add (i * 2)).off + 1, none⟩) = some (.string l[i].2)) := c1'
    clear hr k3 c1 c1' hn hst hs
    go_enter Try.func69, Try.ntmps69
    go_wp2_with fail
    go_quiet (fail)
    go_wp2_with fail
    go_ret
    exact ⟨by rw [HR.out]; rfl, q0.drewN _⟩
  · have e3 : (t.k == 3) = false := by simpa using k3
    have HR : Hid (hasB l t = (isKindB t.k && ((n : Int) == partsN t.k))) := by unfold Hid hasB; rw [if_neg k3, hn]
    clear hr k3 hn hst
    have X := Box4.new w (.int .i64 t.k) (.int .i64 t.s) (.int .i64 t.p) (.slice E n c) 60
    go_enter Try.func69, Try.ntmps69
    go_wp2_with fail
    generalize w.alloc (Obj.cells #[.int .i64 t.k, .int .i64 t.s, .int .i64 t.p, .slice E n c] 60) = W0 at *
    have HX := Lib.hid X
    have x0 := X.c0
    have xl := X.lt
    clear X
    go_region_held3 (fun w' => w'.cell? ⟨w.heap.size, 0, none⟩ = some (.int .i64 t.k))
      (first
        | go_keep
        | exact (p1.cell (p := ⟨w.heap.size, 0, none⟩) xl).trans x0)
      (first
        | (go_at_call 84; refine (parts_any _).mono ?_; rintro e w1 ⟨B, rfl, q1, hL⟩; have p1 := (Q.refl W0).drew.trans q1; have hlk := hL w1 (Q.refl _) t.k hw; clear hL))
    have z0 := (HX.out.q p1).c3
    clear hlk
    cases hk : isKindB t.k
    all_goals
      rw [hk] at HR
      go_wp2_with fail
      go_ret
      exact ⟨by rw [HR.out]; rfl, q0.trans p1⟩

theorem allPl_at (xs : List Int) (m k : Nat) (h : k < xs.length) : allPl (xs.drop k) m = (isPl xs[k] m && allPl (xs.drop (k + 1)) m) := by
  rw [List.drop_eq_getElem_cons h]; rfl
theorem allPl_end (xs : List Int) (m k : Nat) (h : xs.length ≤ k) : allPl (xs.drop k) m = true := by
  rw [List.drop_eq_nil_of_le h]; rfl

set_option maxRecDepth 100000 in
set_option maxHeartbeats 1000000 in
theorem may_any (L A S E : Option Addr) (nl cl na ca m d n c : Nat) (l : List Sg.Sig) (t : Tm) (w : World) (hnl : nl = l.length) (hr : Sg.Row w w.heap.size L l) (hn : n = t.xs.length) (he : Ints w w.heap.size E t.xs) (hw : Wf t.k) (hl : t.xs.length ≤ maxLen) :
    Calls Try.prog 50 #[.slice L nl cl, .agg #[.slice A na ca, .slice S m d], .agg #[.int .i64 t.k, .int .i64 t.s, .int .i64 t.p, .slice E n c]] w fun e w' => e = .returned (.bool (mayB l na t)) ∧ Q w w' := by
  subst hnl
  unfold maxLen at hl
  have q0 := ((Q.refl w).alloc (Obj.cells #[Value.slice A na ca, Value.slice S m d] 26)).alloc (Obj.cells #[.int .i64 t.k, .int .i64 t.s, .int .i64 t.p, .slice E n c] 60)
  have Hr := Lib.hid ((hr.q (Nat.le_refl _) q0).more q0.size)
  have He := Lib.hid ((he.q (Nat.le_refl _) q0).more q0.size)
  have X := Box4.new (w.alloc (Obj.cells #[Value.slice A na ca, Value.slice S m d] 26)) (.int .i64 t.k) (.int .i64 t.s) (.int .i64 t.p) (.slice E n c) 60
  rw [World.size_alloc] at X
  have HX := Lib.hid X
  have HB := Lib.hid ((BoxT.new w (Value.slice A na ca) (Value.slice S m d) 26).q ((Q.refl _).alloc (Obj.cells #[.int .i64 t.k, .int .i64 t.s, .int .i64 t.p, .slice E n c] 60)))
  have Hn := Lib.hid hn
  have HM : Hid (mayB l na t = (standB l t && hasB l t && allPl t.xs na)) := rfl
  clear hr he X hn
  go_enter Try.func50, Try.ntmps50
  go_wp2_with fail
  generalize (w.alloc (Obj.cells #[Value.slice A na ca, Value.slice S m d] 26)).alloc (Obj.cells #[.int .i64 t.k, .int .i64 t.s, .int .i64 t.p, .slice E n c] 60) = W0 at *
  refine (mayStand_any _ _ _ _ _ _ l t _ rfl Hr.out).mono ?_
  rintro e w1 ⟨rfl, q1⟩
  have HX1 := Lib.hid (HX.out.q q1)
  have x0 := HX1.out.c0
  have x1 := HX1.out.c1
  have x2 := HX1.out.c2
  have x3 := HX1.out.c3
  cases hst : standB l t
  · rw [hst] at HM
    go_wp2_with fail
    go_ret
    exact ⟨by rw [HM.out]; rfl, q0.trans q1⟩
  · have Hst := Lib.hid hst
    rw [hst] at HM
    go_wp2_with fail
    refine (hasItsParts_any _ _ _ _ _ _ l t _ rfl ((Hr.out.q (Nat.le_refl _) q1).more q1.size) Hn.out hw Hst.out).mono ?_
    rintro e w2 ⟨rfl, q2⟩
    have q12 := q1.trans q2
    clear x0 x1 x2 x3
    have HX2 := Lib.hid (HX.out.q q12)
    have x3 := HX2.out.c3
    have b0 := (HB.out.q q12).c0
    cases hha : hasB l t
    · rw [hha] at HM
      go_wp2_with fail
      go_ret
      exact ⟨by rw [HM.out]; rfl, q0.trans q12⟩
    · rw [hha] at HM
      have HM2 : Hid (mayB l na t = allPl t.xs na) := by unfold Hid; rw [HM.out]; rfl
      obtain ⟨N, hN⟩ : ∃ N, N = t.xs.length := ⟨_, rfl⟩
      obtain rfl : n = N := by rw [hN]; exact Hn.out
      have He2 := Lib.hid ((He.out.q (Nat.le_refl _) q12).more q12.size)
      have HN := Lib.hid hN
      rw [← hN] at hl
      clear hN hst hha
      go_wp2_with fail
      go_loopw [8, 22] (fun _ i wr => ∃ k : Nat, k ≤ n ∧ i = .int .i64 k ∧ Hid (allPl t.xs na = allPl (t.xs.drop k) na) ∧ w2 = wr) (fun _ i _ => n - (intOf i).toNat)
      case atStart => exact ⟨0, Nat.zero_le _, rfl, Lib.hid rfl, rfl⟩
      case round =>
        obtain ⟨k, hk, rfl, HF, rfl⟩ := hrel
        by_cases hlt : k < n
        · have hltx : k < t.xs.length := by have := HN.out; omega
          obtain ⟨ad, rfl, hb, c0⟩ := He2.out.at_ hltx
          have HS := Lib.hid (allPl_at t.xs na k hltx)
          cases hp : isPl t.xs[k] na
          · have HS' : Hid (allPl (t.xs.drop k) na = false) := by unfold Hid; rw [HS.out, hp]; rfl
            have C := isPlace_any t.xs[k] na w2
            rw [hp] at C
            have HC := Lib.hid C
            clear C hp
            go_wp2_with (go_at_call 70; refine HC.out.mono ?_; rintro e w' ⟨rfl, rfl⟩)
            go_ret
            exact ⟨by rw [HM2.out, HF.out, HS'.out]; rfl, q0.trans q12⟩
          · have HS' : Hid (allPl (t.xs.drop k) na = allPl (t.xs.drop (k + 1)) na) := by unfold Hid; rw [HS.out, hp]; rfl
            have C := isPlace_any t.xs[k] na w2
            rw [hp] at C
            have HC := Lib.hid C
            clear C hp
            go_wp2_with (go_at_call 70; refine HC.out.mono ?_; rintro e w' ⟨rfl, rfl⟩)
            go_roundw
            case rel => exact ⟨k + 1, by omega, by go_num, Lib.hid (HF.out.trans HS'.out), trivial⟩
            case measure => simp [intOf]; omega
        · have HS := Lib.hid (allPl_end t.xs na k (by have := HN.out; omega))
          go_wp2_with fail
          go_ret
          exact ⟨by rw [HM2.out, HF.out, HS.out]; rfl, q0.trans q12⟩
end Go.Proofs.Ytjehccemilefgaa.Tm

namespace Go.Proofs.Ytjehccemilefgaa.Tm
open Go.RowKit Kit Hs

set_option maxRecDepth 100000 in
set_option maxHeartbeats 2000000 in
theorem refmay_any (L E : Option Addr) (nl cl n c many : Nat) (l : List Sg.Sig) (t : Tm) (w : World) (hnl : nl = l.length) (hr : Sg.Row w w.heap.size L l) (hn : n = t.xs.length) (he : Ints w w.heap.size E t.xs) (hl : t.xs.length ≤ maxLen) :
    Calls Try.prog 48 #[.slice L nl cl, .int .i64 (many : Int), .agg #[.int .i64 t.k, .int .i64 t.s, .int .i64 t.p, .slice E n c]] w fun e w' => e = .returned (.bool (mayB l many t)) ∧ Q w w' := by
  subst hnl
  unfold maxLen at hl
  have q0 := (Q.refl w).alloc (Obj.cells #[.int .i64 t.k, .int .i64 t.s, .int .i64 t.p, .slice E n c] 60)
  have Hr := Lib.hid ((hr.q (Nat.le_refl _) q0).more q0.size)
  have He := Lib.hid ((he.q (Nat.le_refl _) q0).more q0.size)
  have X := Box4.new w (.int .i64 t.k) (.int .i64 t.s) (.int .i64 t.p) (.slice E n c) 60
  have HM : Hid (mayB l many t = (standB l t && hasB l t && allPl t.xs many)) := rfl
  have HN := Lib.hid hn
  rw [← hn] at hl
  clear hr he hn
  go_enter Try.func48, Try.ntmps48
  go_wp2_with fail
  generalize w.alloc (Obj.cells #[.int .i64 t.k, .int .i64 t.s, .int .i64 t.p, .slice E n c] 60) = W0 at *
  have x0 := X.c0
  have x1 := X.c1
  have x2 := X.c2
  have x3 := X.c3
  clear X
  go_loopw [7] (fun i wr => ∃ k : Nat, k ≤ n ∧ i = .int .i64 k ∧ Hid (allPl t.xs many = allPl (t.xs.drop k) many) ∧ W0 = wr) (fun i _ => n - (intOf i).toNat)
  case atStart => exact ⟨0, Nat.zero_le _, rfl, Lib.hid rfl, rfl⟩
  case round =>
    obtain ⟨k, hk, rfl, HF, rfl⟩ := hrel
    by_cases hlt : k < n
    · have hltx : k < t.xs.length := by have := HN.out; omega
      obtain ⟨ad, rfl, hb, c0⟩ := He.out.at_ hltx
      have HS := Lib.hid (allPl_at t.xs many k hltx)
      have HP : Hid (isPl t.xs[k] many = (decide (0 ≤ t.xs[k]) && decide (t.xs[k] < (many : Int)))) := rfl
      by_cases h0 : t.xs[k] < 0
      · have d0 : decide (t.xs[k] < 0) = true := decide_eq_true h0
        have HS' : Hid (allPl (t.xs.drop k) many = false) := by unfold Hid; rw [HS.out, HP.out, decide_eq_false (by omega : ¬ 0 ≤ t.xs[k])]; rfl
        clear h0
        go_wp2_with fail
        go_ret
        exact ⟨by rw [HM.out, HF.out, HS'.out, Bool.and_false]; rfl, q0⟩
      · have d0 : decide (t.xs[k] < 0) = false := decide_eq_false h0
        by_cases h1 : (many : Int) ≤ t.xs[k]
        · have d1 : decide ((many : Int) ≤ t.xs[k]) = true := decide_eq_true h1
          have HS' : Hid (allPl (t.xs.drop k) many = false) := by unfold Hid; rw [HS.out, HP.out, decide_eq_false (by omega : ¬ t.xs[k] < (many : Int)), Bool.and_false]; rfl
          clear h0 h1
          go_wp2_with fail
          go_ret
          exact ⟨by rw [HM.out, HF.out, HS'.out, Bool.and_false]; rfl, q0⟩
        · have d1 : decide ((many : Int) ≤ t.xs[k]) = false := decide_eq_false h1
          have HS' : Hid (allPl (t.xs.drop k) many = allPl (t.xs.drop (k + 1)) many) := by unfold Hid; rw [HS.out, HP.out, decide_eq_true (by omega : 0 ≤ t.xs[k]), decide_eq_true (by omega : t.xs[k] < (many : Int))]; rfl
          clear h0 h1
          go_wp2_with fail
          go_roundw
          case rel => exact ⟨k + 1, by omega, by go_num, Lib.hid (HF.out.trans HS'.out), trivial⟩
          case measure => simp [intOf]; omega
    · have HS := Lib.hid (allPl_end t.xs many k (by have := HN.out; omega))
      have HM2 : Hid (mayB l many t = (standB l t && hasB l t)) := by unfold Hid; rw [HM.out, HF.out, HS.out, Bool.and_true]
      clear HM HF HS He
      go_upto_region 7 with fail
      go_cut [9] (fun f wx => f = .bool (isPl t.s l.length) ∧ W0 = wx)
      case first =>
        by_cases h0 : 0 ≤ t.s
        · have d0 : decide (0 ≤ t.s) = true := decide_eq_true h0
          go_wp2_with fail
          all_goals go_meet
          all_goals exact ⟨congrArg Value.bool (by unfold isPl; rw [decide_eq_true h0]; rfl), rfl⟩
        · have d0 : decide (0 ≤ t.s) = false := decide_eq_false h0
          clear h0
          go_wp2_with fail
          all_goals go_meet
          all_goals exact ⟨congrArg Value.bool (by unfold isPl; rw [d0]; rfl), rfl⟩
      case rest =>
        obtain ⟨rfl, rfl⟩ := hcut
        have hA : ∀ (i : Nat), t.s = (i : Int) → i < l.length → ∃ ad, L = some ad ∧ W0.cell? ⟨(ad.add (i * 2)).block, (ad.add (i * 2)).off + 1, none⟩ = some (.string (l[i]?.getD (ByteArray.empty, ByteArray.empty)).2) := fun i _ hi => by
          obtain ⟨ad, e, _, _, c1⟩ := Hr.out.at_ hi
          exact ⟨ad, e, by rw [List.getElem?_eq_getElem hi]; exact c1⟩
        have HA := Lib.hid hA
        have HN' : Hid ((t.xs.length : Int) = (n : Int)) := by unfold Hid; rw [HN.out]
        clear hA Hr hlt hk HN
        by_cases k0 : t.k = 0
        · have f0 : (t.k == 0) = true := by simpa using k0
          have HK : Hid (standB l t = ((t.s == 0) && (t.p == 0))) := by unfold Hid standB; rw [if_neg (by omega), if_neg (by omega), if_neg (by omega)]
          have HH : Hid (hasB l t = ((n : Int) == 0)) := by unfold Hid hasB; rw [if_neg (by omega), HN'.out, k0]; rfl
          clear k0 HA
          cases s0 : (t.s == 0)
          · have HR : Hid (mayB l many t = false) := by unfold Hid; rw [HM2.out, HK.out, s0]; rfl
            go_wp2_with fail
            go_ret
            exact ⟨by rw [HR.out]; rfl, q0⟩
          · cases p0 : (t.p == 0)
            · have HR : Hid (mayB l many t = false) := by unfold Hid; rw [HM2.out, HK.out, s0, p0]; rfl
              go_wp2_with fail
              go_ret
              exact ⟨by rw [HR.out]; rfl, q0⟩
            · have HR : Hid (mayB l many t = ((n : Int) == 0)) := by unfold Hid; rw [HM2.out, HK.out, HH.out, s0, p0]; rfl
              go_wp2_with fail
              go_ret
              exact ⟨by rw [HR.out]; first | rfl | simp, q0⟩
        have f0 : (t.k == 0) = false := by simpa using k0
        by_cases k1 : t.k = 1
        · have f1 : (t.k == 1) = true := by simpa using k1
          have HK : Hid (standB l t = ((t.s == 0) && (t.p == 0))) := by unfold Hid standB; rw [if_neg (by omega), if_neg (by omega), if_neg (by omega)]
          have HH : Hid (hasB l t = ((n : Int) == 0)) := by unfold Hid hasB; rw [if_neg (by omega), HN'.out, k1]; rfl
          clear k0 k1 HA
          cases s0 : (t.s == 0)
          · have HR : Hid (mayB l many t = false) := by unfold Hid; rw [HM2.out, HK.out, s0]; rfl
            go_wp2_with fail
            go_ret
            exact ⟨by rw [HR.out]; rfl, q0⟩
          · cases p0 : (t.p == 0)
            · have HR : Hid (mayB l many t = false) := by unfold Hid; rw [HM2.out, HK.out, s0, p0]; rfl
              go_wp2_with fail
              go_ret
              exact ⟨by rw [HR.out]; rfl, q0⟩
            · have HR : Hid (mayB l many t = ((n : Int) == 0)) := by unfold Hid; rw [HM2.out, HK.out, HH.out, s0, p0]; rfl
              go_wp2_with fail
              go_ret
              exact ⟨by rw [HR.out]; first | rfl | simp, q0⟩
        have f1 : (t.k == 1) = false := by simpa using k1
        by_cases k2 : t.k = 2
        · have f2 : (t.k == 2) = true := by simpa using k2
          have HK : Hid (standB l t = (decide (0 ≤ t.s) && (t.p == 0))) := by unfold Hid standB; rw [if_pos k2]
          have HH : Hid (hasB l t = ((n : Int) == 0)) := by unfold Hid hasB; rw [if_neg (by omega), HN'.out, k2]; rfl
          clear k0 k1 k2 HA
          cases s0 : decide (0 ≤ t.s)
          · have HR : Hid (mayB l many t = false) := by unfold Hid; rw [HM2.out, HK.out, s0]; rfl
            go_wp2_with fail
            go_ret
            exact ⟨by rw [HR.out]; rfl, q0⟩
          · cases p0 : (t.p == 0)
            · have HR : Hid (mayB l many t = false) := by unfold Hid; rw [HM2.out, HK.out, s0, p0]; rfl
              go_wp2_with fail
              go_ret
              exact ⟨by rw [HR.out]; rfl, q0⟩
            · have HR : Hid (mayB l many t = ((n : Int) == 0)) := by unfold Hid; rw [HM2.out, HK.out, HH.out, s0, p0]; rfl
              go_wp2_with fail
              go_ret
              exact ⟨by rw [HR.out]; first | rfl | simp, q0⟩
        have f2 : (t.k == 2) = false := by simpa using k2
        by_cases k3 : t.k = 3
        · have f3 : (t.k == 3) = true := by simpa using k3
          have HK : Hid (standB l t = (isPl t.s l.length && (t.p == 0))) := by unfold Hid standB; rw [if_neg (by omega), if_pos k3]
          have HH : Hid (hasB l t = ((n : Int) == arity l t.s)) := by unfold Hid hasB; rw [if_pos k3, HN'.out]
          clear k0 k1 k2 k3
          cases s0 : isPl t.s l.length
          · have HR : Hid (mayB l many t = false) := by unfold Hid; rw [HM2.out, HK.out, s0]; rfl
            go_wp2_with fail
            go_ret
            exact ⟨by rw [HR.out]; rfl, q0⟩
          · cases p0 : (t.p == 0)
            · have HR : Hid (mayB l many t = false) := by unfold Hid; rw [HM2.out, HK.out, s0, p0]; rfl
              go_wp2_with fail
              go_ret
              exact ⟨by rw [HR.out]; rfl, q0⟩
            · have HR : Hid (mayB l many t = ((n : Int) == arity l t.s)) := by unfold Hid; rw [HM2.out, HK.out, HH.out, s0, p0]; rfl
              obtain ⟨h0, h1⟩ := (isPl_iff _ _).1 s0
              obtain ⟨i, hi⟩ := Int.eq_ofNat_of_zero_le h0
              have hli : i < l.length := by omega
              obtain ⟨ad, rfl, c1⟩ := HA.out i hi hli
              rw [List.getElem?_eq_getElem hli, Option.getD_some] at c1
              have HE : Hid (mayB l many t = ((n : Int) == (l[i].2.size : Int))) := by unfold Hid; rw [HR.out, hi, arity_at hli]
              rw [hi] at x1 h0 h1 s0
              clear hi
              go_wp2_with fail
              go_ret
              exact ⟨by rw [HE.out]; first | rfl | simp, q0⟩
        have f3 : (t.k == 3) = false := by simpa using k3
        by_cases k4 : t.k = 4
        · have f4 : (t.k == 4) = true := by simpa using k4
          have HK : Hid (standB l t = ((t.s == 0) && (t.p == 0))) := by unfold Hid standB; rw [if_neg (by omega), if_neg (by omega), if_neg (by omega)]
          have HH : Hid (hasB l t = ((n : Int) == 2)) := by unfold Hid hasB; rw [if_neg (by omega), HN'.out, k4]; rfl
          clear k0 k1 k2 k3 k4 HA
          cases s0 : (t.s == 0)
          · have HR : Hid (mayB l many t = false) := by unfold Hid; rw [HM2.out, HK.out, s0]; rfl
            go_wp2_with fail
            go_ret
            exact ⟨by rw [HR.out]; rfl, q0⟩
          · cases p0 : (t.p == 0)
            · have HR : Hid (mayB l many t = false) := by unfold Hid; rw [HM2.out, HK.out, s0, p0]; rfl
              go_wp2_with fail
              go_ret
              exact ⟨by rw [HR.out]; rfl, q0⟩
            · have HR : Hid (mayB l many t = ((n : Int) == 2)) := by unfold Hid; rw [HM2.out, HK.out, HH.out, s0, p0]; rfl
              go_wp2_with fail
              go_ret
              exact ⟨by rw [HR.out]; first | rfl | simp, q0⟩
        have f4 : (t.k == 4) = false := by simpa using k4
        by_cases k5 : t.k = 5
        · have f5 : (t.k == 5) = true := by simpa using k5
          have HK : Hid (standB l t = ((t.s == 0) && (t.p == 0))) := by unfold Hid standB; rw [if_neg (by omega), if_neg (by omega), if_neg (by omega)]
          have HH : Hid (hasB l t = ((n : Int) == 2)) := by unfold Hid hasB; rw [if_neg (by omega), HN'.out, k5]; rfl
          clear k0 k1 k2 k3 k4 k5 HA
          cases s0 : (t.s == 0)
          · have HR : Hid (mayB l many t = false) := by unfold Hid; rw [HM2.out, HK.out, s0]; rfl
            go_wp2_with fail
            go_ret
            exact ⟨by rw [HR.out]; rfl, q0⟩
          · cases p0 : (t.p == 0)
            · have HR : Hid (mayB l many t = false) := by unfold Hid; rw [HM2.out, HK.out, s0, p0]; rfl
              go_wp2_with fail
              go_ret
              exact ⟨by rw [HR.out]; rfl, q0⟩
            · have HR : Hid (mayB l many t = ((n : Int) == 2)) := by unfold Hid; rw [HM2.out, HK.out, HH.out, s0, p0]; rfl
              go_wp2_with fail
              go_ret
              exact ⟨by rw [HR.out]; first | rfl | simp, q0⟩
        have f5 : (t.k == 5) = false := by simpa using k5
        by_cases k6 : t.k = 6
        · have f6 : (t.k == 6) = true := by simpa using k6
          have HK : Hid (standB l t = (isPl t.s l.length && isPl t.p (arity l t.s))) := by unfold Hid standB; rw [if_neg (by omega), if_neg (by omega), if_pos k6]
          have HH : Hid (hasB l t = ((n : Int) == 1)) := by unfold Hid hasB; rw [if_neg (by omega), HN'.out, k6]; rfl
          clear k0 k1 k2 k3 k4 k5 k6
          cases s0 : isPl t.s l.length
          · have HR : Hid (mayB l many t = false) := by unfold Hid; rw [HM2.out, HK.out, s0]; rfl
            go_wp2_with fail
            go_quiet (fail)
            go_wp2_with fail
            go_ret
            exact ⟨by rw [HR.out]; rfl, q0.drewN _⟩
          · obtain ⟨h0, h1⟩ := (isPl_iff _ _).1 s0
            obtain ⟨i, hi⟩ := Int.eq_ofNat_of_zero_le h0
            have hli : i < l.length := by omega
            obtain ⟨ad, rfl, c1⟩ := HA.out i hi hli
            rw [List.getElem?_eq_getElem hli, Option.getD_some] at c1
            have HE : Hid (mayB l many t = (isPl t.p (l[i].2.size : Int) && ((n : Int) == 1))) := by unfold Hid; rw [HM2.out, HK.out, HH.out, s0, hi, arity_at hli]; rfl
            rw [hi] at x1 h0 h1 s0
            clear hi
            by_cases p0 : 0 ≤ t.p
            · have d0 : decide (0 ≤ t.p) = true := decide_eq_true p0
              cases p1 : decide (t.p < (l[i].2.size : Int))
              · have HR : Hid (mayB l many t = false) := by unfold Hid; rw [HE.out, isPl, p1, Bool.and_false]; rfl
                clear p0
                go_wp2_with fail
                go_quiet (fail)
                go_wp2_with fail
                go_ret
                exact ⟨by rw [HR.out]; rfl, q0.drewN _⟩
              · have HR : Hid (mayB l many t = ((n : Int) == 1)) := by unfold Hid; rw [HE.out, isPl, p1, d0]; rfl
                clear p0
                go_wp2_with fail
                go_quiet (fail)
                go_wp2_with fail
                go_ret
                exact ⟨by rw [HR.out]; first | rfl | simp, q0.drewN _⟩
            · have d0 : decide (0 ≤ t.p) = false := decide_eq_false p0
              have HR : Hid (mayB l many t = false) := by unfold Hid; rw [HE.out, isPl, d0]; rfl
              clear p0
              go_wp2_with fail
              go_quiet (fail)
              go_wp2_with fail
              go_ret
              exact ⟨by rw [HR.out]; rfl, q0.drewN _⟩
        have f6 : (t.k == 6) = false := by simpa using k6
        have HR : Hid (mayB l many t = false) := by
          unfold Hid
          rw [HM2.out, hasB, if_neg k3, isKindB, f0, f1, f2, f4, f5, f6]
          exact Bool.and_false _
        clear k0 k1 k2 k3 k4 k5 k6 HA
        go_wp2_with fail
        go_ret
        exact ⟨by rw [HR.out]; rfl, q0⟩

end Go.Proofs.Ytjehccemilefgaa.Tm

namespace Go.Proofs.Ytjehccemilefgaa.Tm
open Go.RowKit Kit Hs

def keyOk (l : List Sg.Sig) (key : List Int) (i : Nat) : Bool := decide (3 ≤ key.length) && mayB l i (ofKey key) && !(decide (i < 2) && ((ofKey key).k != (i : Int)))
def stF (l : List Sg.Sig) : List (List Int) → Nat → Bool
  | [], _ => true
  | k :: r, i => keyOk l k i && stF l r (i + 1)
def storeB (l : List Sg.Sig) (ks : List (List Int)) (sl : List Int) : Bool := rightB ks sl && decide (2 ≤ ks.length) && stF l ks 0
theorem stF_at (l : List Sg.Sig) (ks : List (List Int)) (i : Nat) (h : i < ks.length) : stF l (ks.drop i) i = (keyOk l ks[i] i && stF l (ks.drop (i + 1)) (i + 1)) := by
  rw [List.drop_eq_getElem_cons h]; rfl
theorem stF_end (l : List Sg.Sig) (ks : List (List Int)) (i : Nat) (h : ks.length ≤ i) : stF l (ks.drop i) i = true := by
  rw [List.drop_eq_nil_of_le h]; rfl
theorem stF_get {l : List Sg.Sig} : ∀ {ks : List (List Int)} {j : Nat}, stF l ks j = true → ∀ (i : Nat) (key : List Int), ks[i]? = some key → keyOk l key (j + i) = true
  | [], _, _, i, key, h => by simp at h
  | k :: r, j, h, i, key, hk => by
    simp only [stF, Bool.and_eq_true] at h
    cases i with
    | zero => obtain rfl : k = key := by simpa using hk
              exact h.1
    | succ i => have := stF_get h.2 i key (by simpa using hk)
                rwa [show j + 1 + i = j + (i + 1) by omega] at this
theorem stF_of {l : List Sg.Sig} : ∀ {ks : List (List Int)} {j : Nat}, (∀ (i : Nat) (key : List Int), ks[i]? = some key → keyOk l key (j + i) = true) → stF l ks j = true
  | [], _, _ => rfl
  | k :: r, j, h => by
    simp only [stF, Bool.and_eq_true]
    refine ⟨h 0 k rfl, stF_of fun i key hk => ?_⟩
    have := h (i + 1) key (by simpa using hk)
    rwa [show j + (i + 1) = j + 1 + i by omega] at this
/-- a store -/
structure Store (l : List Sg.Sig) (ks : List (List Int)) : Prop where
  dist : Dist ks
  two : 2 ≤ ks.length
  ok : ∀ (i : Nat) (key : List Int), ks[i]? = some key → keyOk l key i = true
theorem store_iff (l : List Sg.Sig) (ks : List (List Int)) (sl : List Int) : storeB l ks sl = true ↔ Store l ks ∧ sl = layI ks := by
  unfold storeB
  rw [Bool.and_eq_true, Bool.and_eq_true, decide_eq_true_eq, right_iff]
  constructor
  · rintro ⟨⟨⟨h1, h2⟩, h3⟩, h4⟩
    exact ⟨⟨h1, h3, fun i key hk => by have := stF_get h4 i key hk; rwa [Nat.zero_add] at this⟩, h2⟩
  · rintro ⟨⟨h1, h3, h4⟩, h2⟩
    exact ⟨⟨⟨h1, h2⟩, h3⟩, stF_of fun i key hk => by rw [Nat.zero_add]; exact h4 i key hk⟩
theorem ofKey_at {key : List Int} (h3 : 3 ≤ key.length) : ofKey key = ⟨key[0], key[1], key[2], key.drop 3⟩ := by
  have h0 : 0 < key.length := by omega
  have h1 : 1 < key.length := by omega
  have h2 : 2 < key.length := by omega
  simp [ofKey, h0, h1, h2]

set_option maxRecDepth 100000 in
set_option maxHeartbeats 2000000 in
theorem refRight3_any (L A S : Option Addr) (nl cl n c m d : Nat) (l : List Sg.Sig) (ks : List (List Int)) (sl : List Int) (w : World) (hnl : nl = l.length) (hr : Sg.Row w w.heap.size L l) (hn : n = ks.length) (hm : m = sl.length) (hk : Keys w w.heap.size A ks) (hS : Ints w w.heap.size S sl)
    (hs : ∀ k ∈ ks, k.length ≤ maxLen) (hl : ks.length ≤ 5000) (hsl : sl.length ≤ maxLen) :
    Calls Try.prog 24 #[.slice L nl cl, .agg #[.slice A n c, .slice S m d]] w fun e w' => e = .returned (.bool (storeB l ks sl)) ∧ Q w w' := by
  subst hnl
  subst hn
  subst hm
  have q0 := (Q.refl w).alloc (Obj.cells #[Value.slice A ks.length c, Value.slice S sl.length d] 26)
  have Hr := Lib.hid ((hr.q (Nat.le_refl _) q0).more q0.size)
  have Hk := Lib.hid ((hk.q (Nat.le_refl _) q0).more q0.size)
  have HS := Lib.hid ((hS.q (Nat.le_refl _) q0).more q0.size)
  have HB := Lib.hid (BoxT.new w (Value.slice A ks.length c) (Value.slice S sl.length d) 26)
  have HsM := Lib.hid hs
  have HD : Hid (storeB l ks sl = (rightB ks sl && decide (2 ≤ ks.length) && stF l ks 0)) := rfl
  clear hr hk hS hs
  go_enter Try.func24, Try.ntmps24
  go_wp2_with fail
  generalize w.alloc (Obj.cells #[Value.slice A ks.length c, Value.slice S sl.length d] 26) = W0 at *
  refine (refRight_any _ _ _ _ _ _ ks sl _ rfl rfl Hk.out HS.out HsM.out hl hsl).mono ?_
  rintro e w1 ⟨rfl, q1⟩
  have HB1 := Lib.hid (HB.out.q q1)
  have b0 := HB1.out.c0
  cases hR : rightB ks sl
  · rw [hR] at HD
    go_wp2_with fail
    go_ret
    exact ⟨by rw [HD.out]; rfl, q0.trans q1⟩
  · rw [hR] at HD
    by_cases h2 : 2 ≤ ks.length
    · have d2 : decide ((ks.length : Int) < 2) = false := decide_eq_false (by omega)
      have HD2 : Hid (storeB l ks sl = stF l ks 0) := by unfold Hid; rw [HD.out, decide_eq_true h2]; rfl
      have Hr1 := Lib.hid ((Hr.out.q (Nat.le_refl _) q1).more q1.size)
      have Hk1 := Lib.hid ((Hk.out.q (Nat.le_refl _) q1).more q1.size)
      have q01 := q0.trans q1
      clear b0 hR HD
      have b0 := HB1.out.c0
      go_wp2_with fail
      go_loopw [6, 7, 8] (fun i _ _ wr => ∃ k : Nat, k ≤ ks.length ∧ i = .int .i64 k ∧ Hid (stF l ks 0 = stF l (ks.drop k) k) ∧ Q w1 wr) (fun i _ _ _ => ks.length - (intOf i).toNat)
      case atStart => exact ⟨0, Nat.zero_le _, rfl, Lib.hid rfl, Q.refl _⟩
      case round =>
        obtain ⟨k, hkl, rfl, HF, qr⟩ := hrel
        clear b0
        have HBr := Lib.hid (HB1.out.q qr)
        have b0 := HBr.out.c0
        have b1 := HBr.out.c1
        by_cases hlt : k < ks.length
        · have HS1 := Lib.hid (stF_at l ks k hlt)
          have Hkr := Lib.hid ((Hk1.out.q (Nat.le_refl _) qr).more qr.size)
          by_cases h3 : 3 ≤ ks[k].length
          · have HT := Lib.hid (termAt_at hlt h3)
            obtain ⟨t, ht⟩ : ∃ t, ofKey ks[k] = t := ⟨_, rfl⟩
            rw [ht] at HT
            have HK : Hid (keyOk l ks[k] k = (mayB l k t && !(decide (k < 2) && (t.k != (k : Int))))) := by unfold Hid keyOk; rw [decide_eq_true h3, ht]; rfl
            have Hl : Hid (t.xs.length ≤ maxLen) := by unfold Hid; rw [← ht]; have := HsM.out _ (List.getElem_mem hlt); simp [ofKey]; omega
            clear ht h3
            go_wp2_with fail
            refine (refOf_any _ _ _ _ _ _ ks k _ rfl Hkr.out).mono ?_
            rintro e w2 ⟨A1, n1, c1, rfl, hn1, hA1, q2⟩
            rw [HT.out] at hn1 hA1 ⊢
            simp only [Option.getD_some, Option.isSome_some] at hn1 hA1 ⊢
            have Hn1 := Lib.hid hn1
            have q23 := q2.alloc (Obj.cells #[.int .i64 t.k, .int .i64 t.s, .int .i64 t.p, .slice A1 n1 c1] 60)
            have q3 := (Q.refl w2).alloc (Obj.cells #[.int .i64 t.k, .int .i64 t.s, .int .i64 t.p, .slice A1 n1 c1] 60)
            have HA1 := Lib.hid ((hA1.q (Nat.le_refl _) q3).more q3.size)
            have X := Box4.new w2 (.int .i64 t.k) (.int .i64 t.s) (.int .i64 t.p) (.slice A1 n1 c1) 60
            have qr3 := qr.trans q23
            have HX := Lib.hid X
            clear hn1 hA1 X b0 b1
            go_wp2_with fail
            generalize w2.alloc (Obj.cells #[.int .i64 t.k, .int .i64 t.s, .int .i64 t.p, .slice A1 n1 c1] 60) = W3 at *
            refine (refmay_any _ _ _ _ _ _ k l t _ rfl ((Hr1.out.q (Nat.le_refl _) qr3).more qr3.size) Hn1.out HA1.out Hl.out).mono ?_
            rintro e w4 ⟨rfl, q4⟩
            have qr4 := qr3.trans q4
            have x0 := (HX.out.q q4).c0
            cases hM : mayB l k t
            · have HR : Hid (storeB l ks sl = false) := by unfold Hid; rw [HD2.out, HF.out, HS1.out, HK.out, hM]; rfl
              go_wp2_with fail
              go_ret
              exact ⟨by rw [HR.out]; rfl, q01.trans qr4⟩
            · by_cases hk2 : k < 2
              · have d3 : decide ((k : Int) < 2) = true := decide_eq_true (by omega)
                cases hne : (t.k != (k : Int))
                · have HR : Hid (stF l (ks.drop k) k = stF l (ks.drop (k + 1)) (k + 1)) := by unfold Hid; rw [HS1.out, HK.out, hM, hne, Bool.and_false]; rfl
                  clear hk2
                  go_wp2_with fail
                  go_roundw
                  case rel => exact ⟨k + 1, by omega, by go_num, Lib.hid (HF.out.trans HR.out), qr4⟩
                  case measure => simp [intOf]; omega
                · have HR : Hid (storeB l ks sl = false) := by unfold Hid; rw [HD2.out, HF.out, HS1.out, HK.out, hM, hne, decide_eq_true hk2]; rfl
                  clear hk2
                  go_wp2_with fail
                  go_ret
                  exact ⟨by rw [HR.out]; rfl, q01.trans qr4⟩
              · have d3 : decide ((k : Int) < 2) = false := decide_eq_false (by omega)
                have HR : Hid (stF l (ks.drop k) k = stF l (ks.drop (k + 1)) (k + 1)) := by unfold Hid; rw [HS1.out, HK.out, hM, decide_eq_false hk2]; rfl
                clear hk2
                go_wp2_with fail
                go_roundw
                case rel => exact ⟨k + 1, by omega, by go_num, Lib.hid (HF.out.trans HR.out), qr4⟩
                case measure => simp [intOf]; omega
          · have HT := Lib.hid (termAt_short hlt (Nat.lt_of_not_le h3))
            have HR : Hid (storeB l ks sl = false) := by unfold Hid; rw [HD2.out, HF.out, HS1.out, keyOk, decide_eq_false h3]; rfl
            clear h3
            go_wp2_with fail
            refine (refOf_any _ _ _ _ _ _ ks k _ rfl Hkr.out).mono ?_
            rintro e w2 ⟨A1, n1, c1, rfl, hn1, hA1, q2⟩
            rw [HT.out]
            simp only [Option.getD_none, Option.isSome_none, Tm.none]
            have q23 := q2.alloc (Obj.cells #[.int .i64 0, .int .i64 0, .int .i64 0, .slice A1 n1 c1] 60)
            clear hn1 hA1 b0 b1
            go_wp2_with fail
            go_ret
            exact ⟨by rw [HR.out]; rfl, q01.trans (qr.trans q23)⟩
        · have HS1 := Lib.hid (stF_end l ks k (by omega))
          go_wp2_with fail
          go_ret
          exact ⟨by rw [HD2.out, HF.out, HS1.out]; rfl, q01.trans qr⟩
    · have d2 : decide ((ks.length : Int) < 2) = true := decide_eq_true (by omega)
      have HD2 : Hid (storeB l ks sl = false) := by unfold Hid; rw [HD.out, decide_eq_false h2]; rfl
      go_wp2_with fail
      go_ret
      exact ⟨by rw [HD2.out]; rfl, q0.trans q1⟩
end Go.Proofs.Ytjehccemilefgaa.Tm

namespace Go.Proofs.Ytjehccemilefgaa.Tm
open Go.RowKit Kit Hs

end Go.Proofs.Ytjehccemilefgaa.Tm

namespace Go.Proofs.Ytjehccemilefgaa.Hs
open Go.RowKit Kit

end Go.Proofs.Ytjehccemilefgaa.Hs

namespace Go.Proofs.Ytjehccemilefgaa.Tm
open Go.RowKit Kit Hs

end Go.Proofs.Ytjehccemilefgaa.Tm

namespace Go.Proofs.Ytjehccemilefgaa.Tm
open Go.RowKit Kit Hs

def LookB (B : Nat) (ks : List (List Int)) (id : Int) (w : World) (e : Ending) (w' : World) : Prop :=
  ∃ A n c, e = .returned (.tuple #[.agg #[.int .i64 ((termAt ks id).getD .none).k, .int .i64 ((termAt ks id).getD .none).s, .int .i64 ((termAt ks id).getD .none).p, .slice A n c], .bool (termAt ks id).isSome]) ∧ n = ((termAt ks id).getD .none).xs.length ∧ Ints w' B A ((termAt ks id).getD .none).xs ∧ Q w w'
theorem lookB_none {B : Nat} {ks : List (List Int)} {id : Int} {w w' : World} (h : termAt ks id = none) (q : Q w w') : LookB B ks id w (.returned (.tuple #[.agg #[.int .i64 0, .int .i64 0, .int .i64 0, .slice none 0 0], .bool false])) w' := by
  unfold LookB
  rw [h]
  exact ⟨none, 0, 0, rfl, rfl, fun h => absurd h (by simp [Tm.none]), q⟩
theorem lookB_some {B : Nat} {ks : List (List Int)} {id : Int} {w w' : World} {t : Tm} {A : Option Addr} {n c : Nat} (h : termAt ks id = some t) (hn : n = t.xs.length) (hA : Ints w' B A t.xs) (q : Q w w') : LookB B ks id w (.returned (.tuple #[.agg #[.int .i64 t.k, .int .i64 t.s, .int .i64 t.p, .slice A n c], .bool true])) w' := by
  unfold LookB
  rw [h]
  exact ⟨A, n, c, rfl, hn, hA, q⟩
theorem drop_intsB {w w' : World} {B : Nat} {ad : Addr} {key : List Int} (hc : ∀ (i : Nat) (x : Int), key[i]? = some x → w.cell? (ad.add i) = some (.int .i64 x)) (hb : ad.block < B) (hB : B ≤ w.heap.size) (q : Q w w') (n : Nat) : Ints w' B (some (ad.add n)) (key.drop n) := fun _ => by
  refine ⟨_, rfl, by rw [add_block]; exact hb, fun i x hx => ?_⟩
  rw [List.getElem?_drop] at hx
  rw [Addr.add_add, q.cell (by rw [add_block]; exact Nat.lt_of_lt_of_le hb hB)]
  exact hc _ x hx

end Go.Proofs.Ytjehccemilefgaa.Tm

namespace Go.Proofs.Ytjehccemilefgaa.Tm
open Go.RowKit Kit Hs

theorem boolInfo : (Try.prog.info? 4).map (fun i => (i.zero, i.size, i.bytes)) = some (some (.bool false), 1, 1) := by kernel_rfl
end Go.Proofs.Ytjehccemilefgaa.Tm

namespace Go.Proofs.Ytjehccemilefgaa.Tm
open Go.RowKit Kit Hs

end Go.Proofs.Ytjehccemilefgaa.Tm

namespace Go.Proofs.Ytjehccemilefgaa.Tm
open Go.RowKit Kit Hs

def first3 : List (List Int) := [[0, 0, 0], [1, 0, 0]]
end Go.Proofs.Ytjehccemilefgaa.Tm

namespace Go.Proofs.Ytjehccemilefgaa.Tm
open Go.RowKit Kit Hs

theorem may_wf {l : List Sg.Sig} {n : Nat} {t : Tm} (h : mayB l n t = true) : Wf t.k := by
  unfold mayB at h
  simp only [Bool.and_eq_true] at h
  obtain ⟨⟨_, h⟩, _⟩ := h
  unfold hasB at h
  split at h
  · unfold Wf; omega
  · simp only [Bool.and_eq_true, isKindB, Bool.or_eq_true, beq_iff_eq] at h
    unfold Wf; omega
theorem keyOk_parts {l : List Sg.Sig} {key : List Int} {i : Nat} (h : keyOk l key i = true) : 3 ≤ key.length ∧ mayB l i (ofKey key) = true ∧ (i < 2 → (ofKey key).k = (i : Int)) := by
  unfold keyOk at h
  simp only [Bool.and_eq_true, decide_eq_true_eq, Bool.not_eq_true', Bool.and_eq_false_iff, decide_eq_false_iff_not, bne_eq_false_iff_eq] at h
  obtain ⟨⟨h1, h2⟩, h3⟩ := h
  exact ⟨h1, h2, fun hi => h3.resolve_left (by omega)⟩
theorem key_of {key : List Int} (h : 3 ≤ key.length) : (ofKey key).key = key := by
  rw [ofKey_at h]
  match key, h with
  | a :: b :: c :: r, _ => rfl
theorem Store.head {l : List Sg.Sig} {ks : List (List Int)} (h : Store l ks) {i : Nat} (hi : i < 2) : ks[i]? = some [(i : Int), 0, 0] := by
  have hlt : i < ks.length := by have := h.two; omega
  have hk := h.ok i _ (List.getElem?_eq_getElem hlt)
  obtain ⟨h3, hm, hk2⟩ := keyOk_parts hk
  have hkk := hk2 hi
  rw [List.getElem?_eq_getElem hlt, ← key_of h3]
  obtain ⟨t, ht⟩ : ∃ t, ofKey ks[i] = t := ⟨_, rfl⟩
  rw [ht] at hkk hm ⊢
  unfold mayB at hm
  simp only [Bool.and_eq_true] at hm
  obtain ⟨⟨hst, hha⟩, _⟩ := hm
  unfold standB at hst
  rw [if_neg (by omega), if_neg (by omega), if_neg (by omega)] at hst
  unfold hasB at hha
  rw [if_neg (by omega)] at hha
  simp only [Bool.and_eq_true, beq_iff_eq] at hst hha
  have hx : t.xs.length = 0 := by
    have h2 := hha.2
    unfold partsN at h2
    rw [if_neg (by omega), if_neg (by omega), if_neg (by omega)] at h2
    omega
  have hx' := List.eq_nil_of_length_eq_zero hx
  simp [Tm.key, hkk, hst.1, hst.2, hx']
theorem Store.first {l : List Sg.Sig} {ks : List (List Int)} (h : Store l ks) : ks.take 2 = first3 := by
  apply List.ext_getElem?
  intro i
  by_cases hi : i < 2
  · rw [List.getElem?_take, if_pos hi, h.head hi]
    match i, hi with
    | 0, _ => rfl
    | 1, _ => rfl
  · rw [List.getElem?_take, if_neg hi]
    exact (List.getElem?_eq_none (by simp [first3]; omega)).symm
theorem _root_.Go.Proofs.Ytjehccemilefgaa.Hs.Keys.take {w : World} {B : Nat} {A : Option Addr} {ks : List (List Int)} (h : Keys w B A ks) (n : Nat) : Keys w B A (ks.take n) := fun h0 => by
  obtain ⟨ad, e, hb, hc⟩ := h (by rw [List.length_take] at h0; omega)
  refine ⟨ad, e, hb, fun i k hk => hc i k ?_⟩
  rw [List.getElem?_take] at hk
  split at hk
  · exact hk
  · cases hk
theorem slice_rows (A : Option Addr) (n c l : Nat) (h : l ≤ c) (u : World) : (Instr.slice 23 (.slice A n c) none (some (.int .i64 (l : Int))) none).run Try.prog u = .ok (.slice A l c) u := by
  obtain ⟨i0, hi, hz0, hz1, hz2⟩ := info_parts sliceInfo
  simp [Instr.slice, run_underlying Try.underlying23, Instr.sliceBounds, Instr.sliceBound, asIntOf, sizeOf, typeInfo, hi, h, Addr.add]

end Go.Proofs.Ytjehccemilefgaa.Tm

namespace Go.Proofs.Ytjehccemilefgaa.Rw
open Go.RowKit Kit

/-- a slice value that reads these cells, below block B -/
def Rds (w : World) (B : Nat) (A : Option Addr) (cs : List Value) : Prop := 0 < cs.length → ∃ ad, A = some ad ∧ ad.block < B ∧ ∀ j v, cs[j]? = some v → w.cell? (ad.add j) = some v
theorem add_block (a : Addr) (n : Nat) : (a.add n).block = a.block := by unfold Addr.add; split <;> rfl
theorem add_succ (a : Addr) (n : Nat) : a.add (n + 1) = ⟨(a.add n).block, (a.add n).off + 1, none⟩ := by
  unfold Addr.add
  by_cases h : n = 0 <;> simp [h, Nat.add_assoc]
theorem add_zero_head (g j : Nat) : (⟨g, 0, none⟩ : Addr).add j = ⟨g, j, none⟩ := by
  unfold Addr.add
  by_cases h : j = 0 <;> simp [h]
theorem Rds.keep {w w' : World} {B : Nat} {A : Option Addr} {l : List Value} (h : Rds w B A l) (hb : Below B w w') : Rds w' B A l := fun h0 => by
  obtain ⟨ad, e, hlt, hc⟩ := h h0
  exact ⟨ad, e, hlt, fun i s hs => (hb.cell (by rw [add_block]; exact hlt)).trans (hc i s hs)⟩
theorem Rds.more {w : World} {B B' : Nat} {A : Option Addr} {l : List Value} (h : Rds w B A l) (hB : B ≤ B') : Rds w B' A l := fun h0 => by
  obtain ⟨ad, e, hlt, hc⟩ := h h0
  exact ⟨ad, e, by omega, hc⟩
theorem Rds.q {w w' : World} {A : Option Addr} {l : List Value} (h : Rds w w.heap.size A l) (q : Q w w') : Rds w' w'.heap.size A l := (h.keep q).more q.size
theorem Rds.nil (w : World) (B : Nat) (A : Option Addr) : Rds w B A [] := fun h => absurd h (by simp)

theorem Rds.src {w : World} {B : Nat} {A : Option Addr} {l : List Value} (h : Rds w B A l) : Src w A l := fun h0 => by
  obtain ⟨ad, e, _, hc⟩ := h h0
  exact ⟨ad, e, hc⟩

/-- block g holds these cells, from its head on, and may be written -/
def OwnC (w : World) (g : Nat) (cs : List Value) : Prop := g < w.heap.size ∧ ∀ j v, cs[j]? = some v → w.cell? ⟨g, j, none⟩ = some v ∧ w.frozen? ⟨g, j, none⟩ = false
theorem OwnC.rds {w : World} {g : Nat} {cs : List Value} (h : OwnC w g cs) : Rds w w.heap.size (some ⟨g, 0, none⟩) cs := fun _ => ⟨_, rfl, h.1, fun j v hv => by rw [add_zero_head]; exact (h.2 j v hv).1⟩
theorem OwnC.q {w w' : World} {g : Nat} {cs : List Value} (h : OwnC w g cs) (q : Q w w') : OwnC w' g cs :=
  ⟨Nat.lt_of_lt_of_le h.1 q.size, fun i x hx => ⟨(q.cell (p := ⟨g, i, none⟩) h.1).trans (h.2 i x hx).1, (q.frozen (p := ⟨g, i, none⟩) h.1).trans (h.2 i x hx).2⟩⟩
theorem OwnC.far {w : World} {g : Nat} {cs : List Value} (h : OwnC w g cs) {b i : Nat} (hb : b ≠ g) (u : Value) : OwnC (w.setCell ⟨b, i, none⟩ u) g cs :=
  ⟨by simpa [World.setCell] using h.1, fun j v hv => ⟨(World.cell?_setCell_far _ _ _ _ hb).trans (h.2 j v hv).1, by rw [World.frozen?_setCell]; exact (h.2 j v hv).2⟩⟩
theorem OwnC.grown {w w' : World} {g : Nat} {cs : List Value} {row : Option Nat} (h : OwnC w g cs) (hg : w.grownBy w' row) (hr : row ≠ some g) : OwnC w' g cs := by
  have hb := hg.block g h.1 (fun e => hr e.symm)
  exact ⟨Nat.lt_of_lt_of_le h.1 hg.size, fun j v hv => ⟨(World.cell?_of_block (a := ⟨g, j, none⟩) hb).trans (h.2 j v hv).1, (World.frozen?_of_block (a := ⟨g, j, none⟩) hb).trans (h.2 j v hv).2⟩⟩
theorem OwnC.take {w : World} {g : Nat} {cs : List Value} (h : OwnC w g cs) (n : Nat) : OwnC w g (cs.take n) :=
  ⟨h.1, fun j v hv => h.2 j v (by rw [List.getElem?_take] at hv; split at hv; exact hv; cases hv)⟩
theorem setCell_ne {W : World} {B i j : Nat} {v u : Value} (h : i ≠ j) (hc : W.cell? ⟨B, j, none⟩ = some u) : (W.setCell ⟨B, i, none⟩ v).cell? ⟨B, j, none⟩ = some u := by
  have := World.cell?_setCell_other (w := W) (a := ⟨B, i, none⟩) (b := ⟨B, j, none⟩) (v := v) (by intro e; injection e with _ e; exact h e)
  exact this.trans hc
theorem setCell_eq {W : World} {B i : Nat} {v u : Value} (hc : W.cell? ⟨B, i, none⟩ = some u) : (W.setCell ⟨B, i, none⟩ v).cell? ⟨B, i, none⟩ = some v := World.cell?_setCell_same' _ _ _ (by rw [hc]; rfl)
theorem OwnC.set {w : World} {g : Nat} {cs : List Value} (h : OwnC w g cs) {s : Nat} (hs : s < cs.length) (v : Value) : OwnC (w.setCell ⟨g, s, none⟩ v) g (cs.set s v) := by
  refine ⟨by simp [World.setCell]; exact h.1, fun i x hx => ?_⟩
  rw [World.frozen?_setCell]
  by_cases hi : s = i
  · subst hi
    rw [List.getElem?_set_self hs] at hx
    obtain rfl : v = x := by simpa using hx
    have := h.2 s _ (List.getElem?_eq_getElem hs)
    exact ⟨setCell_eq this.1, this.2⟩
  · rw [List.getElem?_set_ne hi] at hx
    exact ⟨setCell_ne hi (h.2 i x hx).1, (h.2 i x hx).2⟩
theorem OwnC.of_row {w : World} {base g n cap size : Nat} {e : TypeId} {cs : List Value} (h : w.ownsRow base e size (.slice (some ⟨g, 0, none⟩) n cap) n cs) : OwnC w g cs := by
  refine ⟨(h.lt g rfl).2, fun j v hv => ⟨?_, h.frozenAt j⟩⟩
  have := h.cells (g := g) rfl j v hv
  rwa [add_zero_head] at this
theorem grows_q {a b : World} (q : Q a b) (row : Option Nat) : a.grownBy b row := ⟨q.os, q.tape, q.output, q.size, fun i hi _ => q.block i hi⟩
theorem row_kept {w w' : World} {base base' : Nat} {e : TypeId} {size : Nat} {v : Value} {n : Nat} {xs : List Value} (h : w.ownsRow base e size v n xs) (q : Q w w') (hb : base' ≤ base) : w'.ownsRow base' e size v n xs := by
  have h2 := h.kept (row := none) (grows_q q none) (by cases v.ownBlock <;> simp)
  obtain ⟨a, b⟩ := h2
  refine ⟨a, ?_⟩
  rcases b with b | ⟨g, cap, cur, r1, r2, r⟩
  · exact .inl b
  · exact .inr ⟨g, cap, cur, r1, Nat.le_trans hb r2, r⟩
theorem src_alloc (w : World) (cs : List Value) (t : TypeId) (fr : Nat × Nat) : Src (w.alloc (.cells cs.toArray t fr)) (some ⟨w.heap.size, 0, none⟩) cs := by
  have := src_block (heap_alloc_new w (.cells cs.toArray t fr))
  simpa using this
theorem own_nil (w : World) (base : Nat) (e : TypeId) (size : Nat) : w.ownsRow base e size (.slice none 0 0) 0 [] := ⟨by simp, .inl ⟨rfl, rfl⟩⟩
end Go.Proofs.Ytjehccemilefgaa.Rw

namespace Go.Proofs.Ytjehccemilefgaa.Rw
open Go.RowKit Kit

def bs (l : List UInt8) : ByteArray := ⟨l.toArray⟩
/-- any token as memory has it: its kind, its text, where it begins -/
abbrev Tg := Int × ByteArray × Int
/-- two texts are the same -/
def eqS (a b : ByteArray) : Bool := a.toList == b.toList
theorem eqS_iff (a b : ByteArray) : eqS a b = true ↔ a = b := by
  unfold eqS
  rw [beq_iff_eq, ByteArray.toList_eq, ByteArray.toList_eq]
  exact ⟨fun h => ByteArray.ext (Array.toList_inj.mp h), fun h => by rw [h]⟩
end Go.Proofs.Ytjehccemilefgaa.Rw
