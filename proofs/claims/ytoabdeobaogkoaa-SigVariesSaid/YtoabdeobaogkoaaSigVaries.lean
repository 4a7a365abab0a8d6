/-
  SigVaries holds: of any three bytes, how a part of a part varies hangs on no order, nor on brackets; twice against is with; in what does not vary nothing varies. No conditions.
-/
import Derived.Test.YtoabdeobaogkoaaSigF
import Derived.Test.YtoabdeobaogkoaaRows
import Derived.OpenShut
namespace Go.Proofs.Ytoabdeobaogkoaa.sigVaries
open Go.ChangeShapes Go.WideShapes Go.ChangeAt Go.RowKit Kit Sg

theorem three (c : Int) : c = 43 ∨ c = 45 ∨ (c ≠ 43 ∧ c ≠ 45) := by omega
theorem fixed_other {c : Int} (h : c ≠ 43 ∧ c ≠ 45) : isFixedB c = true := by simp [isFixedB, h.1, h.2]
theorem both_l {a : Int} (b : Int) (h : isFixedB a = true) : bothI a b = 61 := by simp [bothI, h]
theorem both_r (a : Int) {b : Int} (h : isFixedB b = true) : bothI a b = 61 := by simp [bothI, h]
theorem fixed_eq : isFixedB 61 = true := by decide

theorem comm (a b : Int) : bothI a b = bothI b a := by
  rcases three a with rfl | rfl | ha <;> rcases three b with rfl | rfl | hb
  all_goals first | decide | rw [both_l _ (fixed_other ‹_›), both_r _ (fixed_other ‹_›)] | rw [both_r _ (fixed_other ‹_›), both_l _ (fixed_other ‹_›)]
theorem assoc (a b c : Int) : bothI (bothI a b) c = bothI a (bothI b c) := by
  rcases three a with rfl | rfl | ha
  case inr.inr => rw [both_l b (fixed_other ha), both_l _ fixed_eq, both_l _ (fixed_other ha)]
  all_goals rcases three b with rfl | rfl | hb
  case inl.inr.inr => rw [both_r _ (fixed_other hb), both_l _ fixed_eq, both_l _ (fixed_other hb), both_r _ fixed_eq]
  case inr.inl.inr.inr => rw [both_r _ (fixed_other hb), both_l _ fixed_eq, both_l _ (fixed_other hb), both_r _ fixed_eq]
  all_goals rcases three c with rfl | rfl | hc
  all_goals first | decide | rw [both_r _ (fixed_other hc), both_r _ (fixed_other hc), both_r _ fixed_eq]
theorem twice (a : Int) : bothI 45 (bothI 45 a) = bothI 43 a := by rw [← assoc]; rfl
theorem none_in (a : Int) : bothI 61 a = 61 := both_l a fixed_eq

set_option maxHeartbeats 400000 in
theorem walk (a b c : Int) (w : World) :
    Calls Try.prog 5 #[.int .u8 a, .int .u8 b, .int .u8 c] w fun e w' => e = .returned (.bool true) ∧ Q w w' := by
  have e1 : (bothI a b == bothI b a) = true := by rw [comm a b]; simp
  have e2 : (bothI (bothI a b) c == bothI a (bothI b c)) = true := by rw [assoc]; simp
  have e3 : (bothI 45 (bothI 45 a) == bothI 43 a) = true := by rw [twice]; simp
  have e4 : (bothI 61 a == 61) = true := by rw [none_in]; rfl
  go_enter Try.func5, Try.ntmps5
  go_wp2_with fail
  refine (shown_any _).mono ?_
  rintro e w1 ⟨rfl, q1⟩
  go_wp2_with (go_at_call 15; refine (both_any _ _ _).mono ?_; rintro e w' ⟨rfl, rfl⟩)
  go_ret
  exact ⟨rfl, q1⟩

set_option maxRecDepth 100000 in
theorem lifted (os : Os) (started : os.Started) (H : Type) (enc : TypeId × Value → H) :
    ReturnsInHanded {} Try.checked os 5 .any (Rows.sigVariesSpec.pre6 enc Try.prog Try.f5 Rows.sigVariesRow.domain false) (Rows.sigVariesSpec.post enc Try.prog Try.f5 false true false false) := by
  refine returnsInHanded_of_change (C := Try.checked) own started (by kernel_rfl) Try.func5
    (ChangeSpec.witness6 (enc := enc) (C := Try.checked) false ⟨#[], #[.int .u8 0, .int .u8 0, .int .u8 0], []⟩ 8 (by kernel_rfl) (by kernel_rfl) (by kernel_rfl) (by kernel_rfl)) ?_
  intro W base args ds gs before hval0 hW hcnd _
  have hval : ∀ (j : Nat) t v, Try.f5.params[j]? = some t → args[j]? = some v → Value.okWide Try.prog W .any base t v := hval0
  have hW' := hW
  obtain ⟨p, q, hA0, hV, rfl, hfz, hnd⟩ := hW
  have hA : DataW.TrodAll enc Try.prog W 0 (fun _ => true) true Try.f5.params.toList args.toList ds p := hA0
  rw [Try.params5] at hA hval
  obtain ⟨v0, vs0, d0, ds0, p0, q0, hargs, rfl, rfl, h0, r0⟩ := trodAll_cons hA
  obtain ⟨v1, vs1, d1, ds1, p1, q1, rfl, rfl, rfl, h1, r1⟩ := trodAll_cons r0
  obtain ⟨v2, vs2, d2, ds2, p2, q2, rfl, rfl, rfl, h2, r2⟩ := trodAll_cons r1
  obtain ⟨rfl, rfl, rfl⟩ := trodAll_nil r2
  obtain rfl : args = #[v0, v1, v2] := by cases args; simp_all
  obtain ⟨rfl, rfl⟩ := trodVars_none hV
  obtain ⟨a0, rfl, rfl, rfl, w0⟩ := open_int Try.underlying5 (hval 0 5 v0 rfl rfl) h0
  obtain ⟨a1, rfl, rfl, rfl, w1⟩ := open_int Try.underlying5 (hval 1 5 v1 rfl rfl) h1
  obtain ⟨a2, rfl, rfl, rfl, w2⟩ := open_int Try.underlying5 (hval 2 5 v2 rfl rfl) h2
  clear hA0 hval0
  refine (walk a0 a1 a2 W).mono fun e W' ⟨he, hg⟩ => ?_
  subst he
  exact ⟨_, rfl, post_law laid (by rw [Try.params5]; decide +kernel) rfl rfl (by kernel_rfl) Try.underlying4 hW' hg⟩

/-- THE STATEMENT -/
theorem proved : Rows.SigVariesSaid :=
  OpenClaim.holds_of_wide 5 Try.f5 rfl rfl rfl rfl rfl rfl rfl ⟨rfl, rfl, rfl, rfl, rfl⟩ rfl rfl rfl rfl rfl (by kernel_rfl) Try.func5 (by kernel_rfl)
    (of_decide_eq_true (by kernel_rfl)) (by unfold Func.isWrapper; first | (rw [if_pos (by decide +kernel)]; kernel_rfl) | (rw [if_neg (by decide +kernel)]; exact ⟨rfl, rfl⟩))
    (fun os started H enc _ => lifted os started H enc)
end Go.Proofs.Ytoabdeobaogkoaa.sigVaries
