/-
  Contracts of mayStand, hasItsParts, May.
-/
import Derived.Test.YtgnbempkobgeiaaTermM
namespace Go.Proofs.Ytgnbempkobgeiaa.Tm
open Go.RowKit Kit Hs

/-- how many parts a constructor has -/
def arity (l : List Sg.Sig) (s : Int) : Int := ((l[s.toNat]?.getD (ByteArray.empty, ByteArray.empty)).2.size : Int)
def standB (l : List Sg.Sig) (t : Tm) : Bool :=
  if t.k = 2 then decide (0 ≤ t.s) && (t.p == 0) else if t.k = 3 then isPl t.s l.length && (t.p == 0) else if t.k = 6 then isPl t.s l.length && isPl t.p (arity l t.s) else (t.s == 0) && (t.p == 0)
def hasB (l : List Sg.Sig) (t : Tm) : Bool := if t.k = 3 then ((t.xs.length : Int) == arity l t.s) else isKindB t.k && ((t.xs.length : Int) == partsN t.k)
def allPl (xs : List Int) (many : Nat) : Bool := xs.all fun x => isPl x many
def mayB (l : List Sg.Sig) (many : Nat) (t : Tm) : Bool := standB l t && hasB l t && allPl t.xs many
theorem arity_at {l : List Sg.Sig} {i : Nat} (h : i < l.length) : arity l (i : Int) = (l[i].2.size : Int) := by simp [arity, h]
theorem isPl_quiet (x n : Int) (w : World) : Calls Try.prog 35 #[.int .i64 x, .int .i64 n] w fun e w' => e = .returned (.bool (isPl x n)) ∧ ∃ m, w' = w.drewN m := (isPlace_any x n w).mono fun _ _ ⟨he, hw⟩ => ⟨he, 0, hw.symm⟩

set_option maxRecDepth 100000 in
set_option maxHeartbeats 1000000 in
theorem mayStand_any (L E : Option Addr) (nl cl n c : Nat) (l : List Sg.Sig) (t : Tm) (w : World) (hnl : nl = l.length) (hr : Sg.Row w w.heap.size L l) :
    Calls Try.prog 40 #[.slice L nl cl, .agg #[.int .i64 t.k, .int .i64 t.s, .int .i64 t.p, .slice E n c]] w fun e w' => e = .returned (.bool (standB l t)) ∧ Q w w' := by
  subst hnl
  have q0 := (Q.refl w).alloc (Obj.cells #[.int .i64 t.k, .int .i64 t.s, .int .i64 t.p, .slice E n c] 28)
  by_cases k2 : t.k = 2
  · have HR : Hid (standB l t = (decide (0 ≤ t.s) && (t.p == 0))) := by unfold Hid standB; rw [if_pos k2]
    have e2 : (t.k == 2) = true := by simpa using k2
    clear hr k2
    cases hs : decide (0 ≤ t.s)
    all_goals
      rw [hs] at HR
      go_enter Try.func40, Try.ntmps40
      go_wp2_with fail
      go_ret
      exact ⟨by rw [HR.out]; rfl, q0⟩
  · have e2 : (t.k == 2) = false := by simpa using k2
    by_cases k3 : t.k = 3
    · have HR : Hid (standB l t = (isPl t.s l.length && (t.p == 0))) := by unfold Hid standB; rw [if_neg k2, if_pos k3]
      have e3 : (t.k == 3) = true := by simpa using k3
      clear hr k2 k3
      cases hs : isPl t.s l.length
      all_goals
        rw [hs] at HR
        go_enter Try.func40, Try.ntmps40
        go_wp2_with (go_at_call 35; refine (isPlace_any _ _ _).mono ?_; rintro e w' ⟨rfl, rfl⟩)
        go_ret
        exact ⟨by rw [HR.out]; rfl, q0⟩
    · have e3 : (t.k == 3) = false := by simpa using k3
      by_cases k6 : t.k = 6
      · have HR : Hid (standB l t = (isPl t.s l.length && isPl t.p (arity l t.s))) := by unfold Hid standB; rw [if_neg k2, if_neg k3, if_pos k6]
        have e6 : (t.k == 6) = true := by simpa using k6
        cases hs : isPl t.s l.length
        · rw [hs] at HR
          clear hr k2 k3 k6
          go_enter Try.func40, Try.ntmps40
          go_wp2_with fail
          have C : Hid (∀ m, Calls Try.prog 35 #[.int .i64 t.s, .int .i64 l.length] ((w.alloc (Obj.cells #[.int .i64 t.k, .int .i64 t.s, .int .i64 t.p, .slice E n c] 28)).drewN m) fun e w' => e = .returned (.bool false) ∧ ∃ m', w' = ((w.alloc (Obj.cells #[.int .i64 t.k, .int .i64 t.s, .int .i64 t.p, .slice E n c] 28)).drewN m).drewN m') := fun m => by have := isPl_quiet t.s l.length ((w.alloc (Obj.cells #[.int .i64 t.k, .int .i64 t.s, .int .i64 t.p, .slice E n c] 28)).drewN m); rw [hs] at this; exact this
          go_quiet (first | (go_at_call 35; with_reducible exact Calls.quiet_of (C.out _)))
          go_wp2_with fail
          go_ret
          exact ⟨by rw [HR.out]; rfl, q0.drewN _⟩
        · rw [hs] at HR
          obtain ⟨h0, h1⟩ := (isPl_iff _ _).1 hs
          obtain ⟨i, hi⟩ := Int.eq_ofNat_of_zero_le h0
          have hlt : i < l.length := by omega
          rw [hi] at HR hs h0 h1 q0
          rw [arity_at hlt] at HR
          obtain ⟨ad, rfl, hb, _, c1⟩ := hr.at_ hlt
          have c1' := (q0.cell (p := ⟨(ad.add (i * 2)).block, (ad.add (i * 2)).off + 1, none⟩) (by show (ad.add (i * 2)).block < _; rw [add_block]; exact hb)).trans c1
          obtain ⟨k, s, p, xs⟩ := t
          obtain rfl : s = (i : Int) := hi
          clear hr k2 k3 k6 c1
          go_enter Try.func40, Try.ntmps40
          go_wp2_with fail
          have C : Hid (∀ m, Calls Try.prog 35 #[.int .i64 (i : Int), .int .i64 l.length] ((w.alloc (Obj.cells #[.int .i64 k, .int .i64 (i : Int), .int .i64 p, .slice E n c] 28)).drewN m) fun e w' => e = .returned (.bool true) ∧ ∃ m', w' = ((w.alloc (Obj.cells #[.int .i64 k, .int .i64 (i : Int), .int .i64 p, .slice E n c] 28)).drewN m).drewN m') := fun m => by have := isPl_quiet i l.length ((w.alloc (Obj.cells #[.int .i64 k, .int .i64 (i : Int), .int .i64 p, .slice E n c] 28)).drewN m); rw [hs] at this; exact this
          have C2 : Hid (∀ m, Calls Try.prog 35 #[.int .i64 p, .int .i64 l[i].2.size] ((w.alloc (Obj.cells #[.int .i64 k, .int .i64 (i : Int), .int .i64 p, .slice E n c] 28)).drewN m) fun e w' => e = .returned (.bool (isPl p l[i].2.size)) ∧ ∃ m', w' = ((w.alloc (Obj.cells #[.int .i64 k, .int .i64 (i : Int), .int .i64 p, .slice E n c] 28)).drewN m).drewN m') := fun m => isPl_quiet _ _ _
          go_quiet (first | (go_at_call 35; with_reducible exact Calls.quiet_of (C.out _)) | (go_at_call 35; with_reducible exact Calls.quiet_of (C2.out _)))
          go_wp2_with fail
          go_ret
          exact ⟨by rw [HR.out]; rfl, q0.drewN _⟩
      · have HR : Hid (standB l t = ((t.s == 0) && (t.p == 0))) := by unfold Hid standB; rw [if_neg k2, if_neg k3, if_neg k6]
        have e6 : (t.k == 6) = false := by simpa using k6
        clear hr k2 k3 k6
        cases hs : (t.s == 0)
        all_goals
          rw [hs] at HR
          go_enter Try.func40, Try.ntmps40
          go_wp2_with fail
          go_ret
          exact ⟨by rw [HR.out]; rfl, q0⟩
end Go.Proofs.Ytgnbempkobgeiaa.Tm
