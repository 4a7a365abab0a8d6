/-
  Contracts of the two Sames: are two terms the same.
-/
import Derived.Test.YtgnbempkobgeiaaTermC
namespace Go.Proofs.Ytgnbempkobgeiaa.Tm
open Go.RowKit Kit Hs

def sameT (t u : Tm) : Bool := (t.k == u.k) && (t.s == u.s) && (t.p == u.p) && eqL t.xs u.xs
theorem sameT_iff (t u : Tm) : sameT t u = true ↔ t = u := by
  obtain ⟨k, s, p, xs⟩ := t
  obtain ⟨k', s', p', xs'⟩ := u
  simp [sameT, eqL_iff, and_assoc]
theorem sameT_key (t u : Tm) : eqL t.key u.key = sameT t u := by
  simp only [Tm.key, eqL, sameT, Bool.and_assoc]

set_option maxRecDepth 100000 in
set_option maxHeartbeats 1000000 in
theorem same_any (E F : Option Addr) (n c n' c' : Nat) (t u : Tm) (w : World) (hn : n = t.xs.length) (hn' : n' = u.xs.length) (he : Ints w w.heap.size E t.xs) (hf : Ints w w.heap.size F u.xs) (hl : t.xs.length ≤ maxLen) :
    Calls Try.prog 23 #[.agg #[.int .i64 t.k, .int .i64 t.s, .int .i64 t.p, .slice E n c], .agg #[.int .i64 u.k, .int .i64 u.s, .int .i64 u.p, .slice F n' c']] w fun e w' => e = .returned (.bool (sameT t u)) ∧ Q w w' := by
  have q0 := ((Q.refl w).alloc (Obj.cells #[.int .i64 t.k, .int .i64 t.s, .int .i64 t.p, .slice E n c] 28)).alloc (Obj.cells #[.int .i64 u.k, .int .i64 u.s, .int .i64 u.p, .slice F n' c'] 28)
  have He := Lib.hid ((he.q (Nat.le_refl _) q0).more q0.size)
  have Hf := Lib.hid ((hf.q (Nat.le_refl _) q0).more q0.size)
  have Hn := Lib.hid hn
  have Hn' := Lib.hid hn'
  clear he hf hn hn'
  cases hk : (t.k == u.k)
  · have HR : Hid (sameT t u = false) := by unfold Hid sameT; rw [hk]; rfl
    go_enter Try.func23, Try.ntmps23
    go_wp2_with fail
    go_ret
    exact ⟨by rw [HR.out]; rfl, q0⟩
  · cases hs : (t.s == u.s)
    · have HR : Hid (sameT t u = false) := by unfold Hid sameT; rw [hk, hs]; rfl
      go_enter Try.func23, Try.ntmps23
      go_wp2_with fail
      go_ret
      exact ⟨by rw [HR.out]; rfl, q0⟩
    · cases hp : (t.p == u.p)
      · have HR : Hid (sameT t u = false) := by unfold Hid sameT; rw [hk, hs, hp]; rfl
        go_enter Try.func23, Try.ntmps23
        go_wp2_with fail
        go_ret
        exact ⟨by rw [HR.out]; rfl, q0⟩
      · have HR : Hid (sameT t u = eqL t.xs u.xs) := by unfold Hid sameT; rw [hk, hs, hp]; rfl
        go_enter Try.func23, Try.ntmps23
        go_wp2_with fail
        refine (equal_any _ _ _ _ _ _ t.xs u.xs _ Hn.out Hn'.out He.out Hf.out hl).mono ?_
        rintro e w1 ⟨rfl, hd1⟩
        have q1 := Q.of_drewN hd1
        clear hd1
        go_wp2_with fail
        go_ret
        exact ⟨by rw [HR.out]; rfl, q0.trans q1⟩

set_option maxRecDepth 100000 in
set_option maxHeartbeats 1000000 in
theorem refSame_any (E F : Option Addr) (n c n' c' : Nat) (t u : Tm) (w : World) (hn : n = t.xs.length) (hn' : n' = u.xs.length) (he : Ints w w.heap.size E t.xs) (hf : Ints w w.heap.size F u.xs) (hl : t.xs.length ≤ maxLen) :
    Calls Try.prog 20 #[.agg #[.int .i64 t.k, .int .i64 t.s, .int .i64 t.p, .slice E n c], .agg #[.int .i64 u.k, .int .i64 u.s, .int .i64 u.p, .slice F n' c']] w fun e w' => e = .returned (.bool (sameT t u)) ∧ Q w w' := by
  have q0 := ((Q.refl w).alloc (Obj.cells #[.int .i64 t.k, .int .i64 t.s, .int .i64 t.p, .slice E n c] 28)).alloc (Obj.cells #[.int .i64 u.k, .int .i64 u.s, .int .i64 u.p, .slice F n' c'] 28)
  have He := Lib.hid ((he.q (Nat.le_refl _) q0).more q0.size)
  have Hf := Lib.hid ((hf.q (Nat.le_refl _) q0).more q0.size)
  have Hn := Lib.hid hn
  have Hn' := Lib.hid hn'
  have X := Box4.new w (.int .i64 t.k) (.int .i64 t.s) (.int .i64 t.p) (.slice E n c) 28
  have HX := Lib.hid (X.q ((Q.refl _).alloc (Obj.cells #[.int .i64 u.k, .int .i64 u.s, .int .i64 u.p, .slice F n' c'] 28)))
  have Y := Box4.new (w.alloc (Obj.cells #[.int .i64 t.k, .int .i64 t.s, .int .i64 t.p, .slice E n c] 28)) (.int .i64 u.k) (.int .i64 u.s) (.int .i64 u.p) (.slice F n' c') 28
  rw [World.size_alloc] at Y
  have HY := Lib.hid Y
  clear he hf hn hn' X Y
  go_enter Try.func20, Try.ntmps20
  go_wp2_with fail
  generalize (w.alloc (Obj.cells #[.int .i64 t.k, .int .i64 t.s, .int .i64 t.p, .slice E n c] 28)).alloc (Obj.cells #[.int .i64 u.k, .int .i64 u.s, .int .i64 u.p, .slice F n' c'] 28) = W0 at *
  refine (refInts_any _ _ _ _ _ _ t.xs u.xs _ Hn.out Hn'.out He.out Hf.out hl).mono ?_
  rintro e w1 ⟨rfl, hd1⟩
  have q1 := Q.of_drewN hd1
  have x0 := (HX.out.q q1).c0
  have x1 := (HX.out.q q1).c1
  have x2 := (HX.out.q q1).c2
  have y0 := (HY.out.q q1).c0
  have y1 := (HY.out.q q1).c1
  have y2 := (HY.out.q q1).c2
  have HS : Hid (sameT t u = (eqL t.xs u.xs && (t.k == u.k) && (t.s == u.s) && (t.p == u.p))) := by
    unfold Hid sameT
    generalize (t.k == u.k) = a, (t.s == u.s) = b, (t.p == u.p) = c, eqL t.xs u.xs = d
    revert a b c d; decide
  clear hd1
  cases hx : eqL t.xs u.xs
  · have HR : Hid (sameT t u = false) := by unfold Hid; rw [HS.out, hx]; rfl
    go_wp2_with fail
    go_ret
    exact ⟨by rw [HR.out]; rfl, q0.trans q1⟩
  · cases hk : (t.k == u.k)
    · have HR : Hid (sameT t u = false) := by unfold Hid; rw [HS.out, hx, hk]; rfl
      go_wp2_with fail
      go_ret
      exact ⟨by rw [HR.out]; rfl, q0.trans q1⟩
    · cases hs : (t.s == u.s)
      · have HR : Hid (sameT t u = false) := by unfold Hid; rw [HS.out, hx, hk, hs]; rfl
        go_wp2_with fail
        go_ret
        exact ⟨by rw [HR.out]; rfl, q0.trans q1⟩
      · have HR : Hid (sameT t u = (t.p == u.p)) := by unfold Hid; rw [HS.out, hx, hk, hs]; rfl
        go_wp2_with fail
        go_ret
        exact ⟨by rw [HR.out]; rfl, q0.trans q1⟩
end Go.Proofs.Ytgnbempkobgeiaa.Tm
