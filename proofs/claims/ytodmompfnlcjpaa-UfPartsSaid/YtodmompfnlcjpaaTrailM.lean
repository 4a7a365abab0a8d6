/-
  Contract of the document's Right.
-/
import Derived.Test.YtodmompfnlcjpaaTrailJ
namespace Go.Proofs.Ytodmompfnlcjpaa.Tr
open Go.RowKit Kit

set_option maxRecDepth 100000 in
set_option maxHeartbeats 4000000 in
theorem refRight_any (c : Cells) (A D E : Option Addr) (n1 k1 n2 k2 n3 k3 : Nat) (w : World) (h1 : n1 = c.V.length) (h2 : n2 = c.N.length) (h3 : n3 = c.M.length) (h : Rd w c A k1 D k2 E k3) (hf : Few c 1000000) :
    Calls Try.prog 26 #[.agg #[.slice A n1 k1, .slice D n2 k2, .slice E n3 k3]] w fun e w' => e = .returned (.bool (rightB c)) ∧ Q w w' := by
  subst h1 h2 h3
  have Hf := Lib.hid hf
  obtain ⟨fv, fn, fm⟩ := hf
  have q0 := (Q.refl w).alloc (Obj.cells #[Value.slice A c.V.length k1, Value.slice D c.N.length k2, Value.slice E c.M.length k3] 25)
  have HB := Lib.hid (Box3.new w (Value.slice A c.V.length k1) (Value.slice D c.N.length k2) (Value.slice E c.M.length k3) 25)
  have HR := Lib.hid (h.q q0)
  clear h
  go_enter Try.func26, Try.ntmps26
  go_wp2_with fail
  generalize w.alloc (Obj.cells #[Value.slice A c.V.length k1, Value.slice D c.N.length k2, Value.slice E c.M.length k3] 25) = W0 at *
  go_loopw [3] (fun i wr => ∃ (k : Nat) (p : Int), k ≤ c.M.length ∧ i = .int .i64 k ∧ Hid (rightB c = (mkB c.N.length p (c.M.drop k) && (backs c.N c.V).isSome)) ∧ Hid (0 ≤ p ∧ (p = 0 ∧ k = 0 ∨ 0 < k ∧ c.M[k - 1]? = some p)) ∧ Hid (∃ d, wr = W0.drewN d)) (fun i _ => c.M.length - (intOf i).toNat)
  case atStart => exact ⟨0, 0, Nat.zero_le _, rfl, Lib.hid rfl, Lib.hid ⟨by omega, .inl ⟨rfl, rfl⟩⟩, Lib.hid ⟨0, rfl⟩⟩
  case round =>
    obtain ⟨k, p, hk, rfl, HH, HP, HD⟩ := hrel
    have qr := Lib.hid (q_drewN W0 HD.out)
    have b1 := (HB.out.q qr.out).c1
    have b2 := (HB.out.q qr.out).c2
    by_cases hlt : k < c.M.length
    · have HS := HH.out
      rw [mkB_at _ _ _ k hlt] at HS
      obtain ⟨ad, e, hb, c0⟩ := (HR.out.m.q qr.out).int_at hlt
      rw [e] at b2
      have HE := Lib.hid e
      clear e
      have j0 : (0 : Int) ≤ (k : Int) := Int.natCast_nonneg _
      have j1 : (k : Int) < (c.M.length : Int) := by omega
      obtain ⟨x, hx⟩ : ∃ x, x = c.M[k] := ⟨_, rfl⟩
      have HX := Lib.hid hx
      rw [← hx] at HS c0
      clear hx
      have stop : ∀ b : Bool, Hid (rightB c = b) → Hid (rightB c = b) := fun _ h => h
      by_cases x0 : x < 0
      · have HF : Hid (rightB c = false) := by
          rw [decide_eq_false (show ¬ p ≤ x by have := HP.out.1; omega)] at HS; exact Lib.hid HS
        have d1 : decide (x < 0) = true := decide_eq_true x0
        clear HS x0
        go_wp2_with fail
        go_quiet (fail)
        go_wp2_with fail
        go_ret
        exact ⟨by rw [HF.out]; rfl, q0.trans (q_drewN W0 (by obtain ⟨d, rfl⟩ := HD.out; exact ⟨_, drewN_add _ _ _⟩))⟩
      · have d1 : decide (x < 0) = false := decide_eq_false x0
        by_cases x1 : (c.N.length : Int) < x
        · have HF : Hid (rightB c = false) := by
            rw [decide_eq_false (show ¬ x ≤ (c.N.length : Int) by omega), Bool.and_false] at HS; exact Lib.hid HS
          have d2 : decide ((c.N.length : Int) < x) = true := decide_eq_true x1
          clear HS x0 x1
          go_wp2_with fail
          go_quiet (fail)
          go_wp2_with fail
          go_ret
          exact ⟨by rw [HF.out]; rfl, q0.trans (q_drewN W0 (by obtain ⟨d, rfl⟩ := HD.out; exact ⟨_, drewN_add _ _ _⟩))⟩
        · have d2 : decide ((c.N.length : Int) < x) = false := decide_eq_false x1
          rw [decide_eq_true (show x ≤ (c.N.length : Int) by omega), Bool.and_true] at HS
          rcases k with _ | k
          · have HF : Hid (rightB c = (mkB c.N.length x (c.M.drop (0 + 1)) && (backs c.N c.V).isSome)) := by
              rw [decide_eq_true (show p ≤ x by have := HP.out.2; omega), Bool.true_and] at HS; exact Lib.hid HS
            have HP' : Hid (0 ≤ x ∧ (x = 0 ∧ 0 + 1 = 0 ∨ 0 < 0 + 1 ∧ c.M[0 + 1 - 1]? = some x)) := ⟨by omega, .inr ⟨by omega, by rw [HX.out]; exact List.getElem?_eq_getElem hlt⟩⟩
            have c0' : wr.cell? ad = some (.int .i64 x) := by have := c0; simpa [Addr.add] using this
            have j1' : (0 : Int) < (c.M.length : Int) := by omega
            clear HS x0 x1 c0
            go_wp2_with fail
            go_quiet (fail)
            go_wp2_with fail
            go_roundw
            case rel => exact ⟨0 + 1, x, by omega, by go_num, HF, HP', Lib.hid (by obtain ⟨d, rfl⟩ := HD.out; exact ⟨_, drewN_add _ _ _⟩)⟩
            case measure => simp [intOf]; omega
          · have hp : c.M[k]? = some p := by
              rcases HP.out.2 with ⟨_, h⟩ | ⟨_, h⟩
              · omega
              · simpa using h
            have hk' : k < c.M.length := by omega
            have hpe : c.M[k] = p := by rw [List.getElem?_eq_getElem hk'] at hp; injection hp
            obtain ⟨ad', e', _, c1⟩ := (HR.out.m.q qr.out).int_at hk'
            have hadd : ad' = ad := by rw [HE.out] at e'; injection e' with e'; exact e'.symm
            rw [hadd, hpe] at c1
            clear hadd e' hp hpe hk'
            have c0' : wr.cell? ⟨ad.block, ad.off + (k + 1), none⟩ = some (.int .i64 x) := by have := c0; simpa [Addr.add] using this
            have j2 : ((k : Int) + 1 - 1) = (k : Int) := by omega
            have j3 : decide (0 < (k : Int) + 1) = true := decide_eq_true (by omega)
            have j5 : ((k : Int) + 1).toNat = k + 1 := by omega
            have j6 : (k : Int) + 1 < (c.M.length : Int) := by omega
            have j7 : (0 : Int) ≤ (k : Int) + 1 := by omega
            have j8 : (k : Int) < (c.M.length : Int) := by omega
            have j9 : IntKind.i64.wrap (k : Int) = (k : Int) := IntWalk.i64_in _ (by omega)
            have j10 : (0 : Int) ≤ (k : Int) := by omega
            have j4 : IntKind.i64.wrap ((k : Int) + 1 - 1) = (k : Int) := by rw [j2]; exact IntWalk.i64_in _ (by omega)
            by_cases x2 : x < p
            · have HF : Hid (rightB c = false) := by
                rw [decide_eq_false (show ¬ p ≤ x by omega)] at HS; exact Lib.hid HS
              have d3 : decide (x < p) = true := decide_eq_true x2
              clear HS x0 x1 x2
              go_wp2_with fail
              go_quiet (fail)
              go_wp2_with fail
              go_ret
              exact ⟨by rw [HF.out]; rfl, q0.trans (q_drewN W0 (by obtain ⟨d, rfl⟩ := HD.out; exact ⟨_, drewN_add _ _ _⟩))⟩
            · have HF : Hid (rightB c = (mkB c.N.length x (c.M.drop (k + 1 + 1)) && (backs c.N c.V).isSome)) := by
                rw [decide_eq_true (show p ≤ x by omega), Bool.true_and] at HS; exact Lib.hid HS
              have HP' : Hid (0 ≤ x ∧ (x = 0 ∧ k + 1 + 1 = 0 ∨ 0 < k + 1 + 1 ∧ c.M[k + 1 + 1 - 1]? = some x)) := ⟨by omega, .inr ⟨by omega, by rw [HX.out]; exact List.getElem?_eq_getElem hlt⟩⟩
              have d3 : decide (x < p) = false := decide_eq_false x2
              clear HS x0 x1 x2
              go_wp2_with fail
              go_quiet (fail)
              go_wp2_with fail
              go_roundw
              case rel => exact ⟨k + 1 + 1, x, by omega, by go_num, HF, HP', Lib.hid (by obtain ⟨d, rfl⟩ := HD.out; exact ⟨_, drewN_add _ _ _⟩)⟩
              case measure => simp [intOf]; omega
    · obtain rfl : k = c.M.length := by omega
      have HF : Hid (rightB c = (backs c.N c.V).isSome) := by have := HH.out; rw [mkB_end _ _ _ _ (Nat.le_refl _), Bool.true_and] at this; exact Lib.hid this
      have b0 := (HB.out.q qr.out).c0
      go_wp2_with fail
      refine (refCells_any c _ _ _ _ _ _ _ _ _ _ rfl rfl rfl (HR.out.q qr.out) Hf.out).mono ?_
      rintro e w1 ⟨v, rfl, q1⟩
      go_wp2_with fail
      go_ret
      exact ⟨by rw [HF.out]; rfl, q0.trans (qr.out.trans q1)⟩
end Go.Proofs.Ytodmompfnlcjpaa.Tr
