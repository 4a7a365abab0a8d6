/-
  SigAdds holds: for every right row of constructors, and every constructor of short texts, the row with it is as the document says, error and all. No conditions.
-/
import Derived.Test.YtoabdeobaogkoaaSigJ
import Derived.Test.YtoabdeobaogkoaaRows
import Derived.Test.YtoabdeobaogkoaaSigOpen
namespace Go.Proofs.Ytoabdeobaogkoaa.sigAdds
open Go.ChangeShapes Go.WideShapes Go.ChangeAt Go.RowKit Kit Sg

set_option maxHeartbeats 400000 in
theorem walk (A : Option Addr) (n c : Nat) (l : List Sig) (nm ar : ByteArray) (w : World) (hn : n = l.length) (hr : Row w w.heap.size A l) (hl : l.length ≤ maxLen) (hs : Sized l) (ha : ar.size ≤ maxLen) :
    Calls Try.prog 3 #[.slice A n c, .agg #[.string nm, .string ar]] w fun e w' => e = .returned (.bool true) ∧ Q w w' := by
  subst hn
  have q0 := (Q.refl w).alloc (Obj.cells #[Value.string nm, Value.string ar] 24)
  have hr0 := Lib.hid (hr.q (Nat.le_refl _) q0)
  clear hr
  cases hf : fewB l
  · go_enter Try.func3, Try.ntmps3
    go_wp2_with fail
    refine (shown_any _).mono ?_
    rintro e w1 ⟨rfl, q1⟩
    go_wp2_with fail
    refine (few_any _ _ _ l _ rfl ((hr0.out.q (by simp) q1).more (by have := (q0.trans q1).size; omega))).mono ?_
    rintro e w2 ⟨rfl, q2⟩
    go_wp2_with fail
    go_ret
    exact ⟨rfl, (q0.trans q1).trans q2⟩
  · have hlen := few_len hf
    cases hR : rightB l
    · go_enter Try.func3, Try.ntmps3
      go_wp2_with fail
      refine (shown_any _).mono ?_
      rintro e w1 ⟨rfl, q1⟩
      have q01 := q0.trans q1
      have hr1 := Lib.hid (hr0.out.q (by simp) q1)
      go_wp2_with fail
      refine (few_any _ _ _ l _ rfl (hr1.out.more q01.size)).mono ?_
      rintro e w2 ⟨rfl, q2⟩
      have q02 := q01.trans q2
      go_wp2_with fail
      refine (refRight_any _ _ _ l _ rfl ((hr1.out.q q01.size q2).more q02.size) hl hs).mono ?_
      rintro e w3 ⟨rfl, rfl⟩
      go_wp2_with fail
      go_ret
      exact ⟨rfl, q02⟩
    · cases hL : longB (nm, ar)
      · have hL' : decide (100 < wrap64 ((nm.size : Int) + (ar.size : Int))) = false := hL
        clear hL
        go_enter Try.func3, Try.ntmps3
        go_wp2_with fail
        refine (shown_any _).mono ?_
        rintro e w1 ⟨rfl, q1⟩
        have q01 := q0.trans q1
        have hr1 := Lib.hid (hr0.out.q (by simp) q1)
        go_wp2_with fail
        refine (few_any _ _ _ l _ rfl (hr1.out.more q01.size)).mono ?_
        rintro e w2 ⟨rfl, q2⟩
        have q02 := q01.trans q2
        have hr2 := Lib.hid (hr1.out.q q01.size q2)
        have q12 := q1.trans q2
        have k0 : w2.cell? ⟨w.heap.size, 0, none⟩ = some (.string nm) := by rw [q12.cell (by simp)]; simp
        have k1 : w2.cell? ⟨w.heap.size, 1, none⟩ = some (.string ar) := by rw [q12.cell (by simp)]; simp
        go_wp2_with fail
        refine (refRight_any _ _ _ l _ rfl (hr2.out.more q02.size) hl hs).mono ?_
        rintro e w3 ⟨rfl, rfl⟩
        go_wp2_with fail
        refine (add_any _ _ _ l nm ar _ rfl (hr2.out.more q02.size) hlen).mono ?_
        rintro e w3 ⟨g, m, rfl, hm, hg, hr3, q3⟩
        have q03 := q02.trans q3
        have k0' : w3.cell? ⟨w.heap.size, 0, none⟩ = some (.string nm) := by rw [q3.cell (by have := q12.size; simp at this; show w.heap.size < w2.heap.size; omega)]; exact k0
        have k1' : w3.cell? ⟨w.heap.size, 1, none⟩ = some (.string ar) := by rw [q3.cell (by have := q12.size; simp at this; show w.heap.size < w2.heap.size; omega)]; exact k1
        have hr3' := Lib.hid hr3
        have hm' := Lib.hid hm
        clear hr3 hm hg k0 k1
        go_wp2_with fail
        refine (refAdd_any _ _ _ l nm ar _ rfl ((hr2.out.q q02.size q3).more q03.size) hlen ha).mono ?_
        rintro e w4 ⟨A', m2, c2, rfl, hm2, hr4, q4⟩
        have hr4' := Lib.hid hr4
        have hm2' := Lib.hid hm2
        clear hr4 hm2 k0' k1'
        have hz : (addL l nm ar).length ≤ maxLen := by
          unfold maxLen addL
          split <;> simp <;> omega
        have hsm : sameB (addL l nm ar) (addL l nm ar) = true := (sameB_iff _ _).2 rfl
        have hee : (mayI l nm ar == mayI l nm ar) = true := by simp
        go_wp2_with fail
        refine (refSame_any _ _ _ _ _ _ (addL l nm ar) (addL l nm ar) _ hm'.out hm2'.out ((hr3'.out.q (Nat.le_refl _) q4).more q4.size) hr4'.out hz).mono ?_
        rintro e w5 ⟨rfl, q5⟩
        rw [hsm]
        go_wp2_with fail
        go_ret
        exact ⟨rfl, (q03.trans q4).trans q5⟩
      · have hL' : decide (100 < wrap64 ((nm.size : Int) + (ar.size : Int))) = true := hL
        clear hL
        go_enter Try.func3, Try.ntmps3
        go_wp2_with fail
        refine (shown_any _).mono ?_
        rintro e w1 ⟨rfl, q1⟩
        have q01 := q0.trans q1
        have hr1 := Lib.hid (hr0.out.q (by simp) q1)
        go_wp2_with fail
        refine (few_any _ _ _ l _ rfl (hr1.out.more q01.size)).mono ?_
        rintro e w2 ⟨rfl, q2⟩
        have q02 := q01.trans q2
        have q12 := q1.trans q2
        have k0 : w2.cell? ⟨w.heap.size, 0, none⟩ = some (.string nm) := by rw [q12.cell (by simp)]; simp
        have k1 : w2.cell? ⟨w.heap.size, 1, none⟩ = some (.string ar) := by rw [q12.cell (by simp)]; simp
        go_wp2_with fail
        refine (refRight_any _ _ _ l _ rfl ((hr1.out.q q01.size q2).more q02.size) hl hs).mono ?_
        rintro e w3 ⟨rfl, rfl⟩
        go_wp2_with fail
        go_ret
        exact ⟨rfl, q02⟩

set_option maxRecDepth 100000 in
theorem lifted (os : Os) (started : os.Started) (H : Type) (enc : TypeId × Value → H) :
    ReturnsInHanded {} Try.checked os 3 .any (Rows.sigAddsSpec.pre6 enc Try.prog Try.f3 Rows.sigAddsRow.domain false) (Rows.sigAddsSpec.post enc Try.prog Try.f3 false true false false) := by
  refine returnsInHanded_of_change (C := Try.checked) own started (by kernel_rfl) Try.func3
    (ChangeSpec.witness6 (enc := enc) (C := Try.checked) false ⟨#[], #[.slice none 0 0, .agg #[.string .empty, .string .empty]], []⟩ 8 (by kernel_rfl) (by kernel_rfl) (by kernel_rfl) (by kernel_rfl)) ?_
  intro W base args ds gs before hval0 hW hcnd _
  have hval : ∀ (j : Nat) t v, Try.f3.params[j]? = some t → args[j]? = some v → Value.okWide Try.prog W .any base t v := hval0
  have hW' := hW
  obtain ⟨p, q, hA0, hV, rfl, hfz, hnd⟩ := hW
  have hA : DataW.TrodAll enc Try.prog W 0 (fun _ => true) true Try.f3.params.toList args.toList ds p := hA0
  rw [Try.params3] at hA hval
  obtain ⟨v0, vs0, d0, ds0, p0, q0, hargs, rfl, rfl, h0, r0⟩ := trodAll_cons hA
  obtain ⟨v1, vs1, d1, ds1, p1, q1, rfl, rfl, rfl, h1, r1⟩ := trodAll_cons r0
  obtain ⟨rfl, rfl, rfl⟩ := trodAll_nil r1
  obtain rfl : args = #[v0, v1] := by cases args; simp_all
  obtain ⟨rfl, rfl⟩ := trodVars_none hV
  obtain ⟨A, n, c, l, rfl, hn, hr, hl, hs, _⟩ := open_sigs (hval 0 22 v0 rfl rfl) h0
  obtain ⟨nm, ar, rfl, hz0, hz1⟩ := open_sig (hval 1 24 v1 rfl rfl) h1
  clear hA0 hval0
  refine (walk A n c l nm ar W hn hr hl hs hz1).mono fun e W' ⟨he, hg⟩ => ?_
  subst he
  exact ⟨_, rfl, post_law laid (by rw [Try.params3]; decide +kernel) rfl rfl (by kernel_rfl) Try.underlying4 hW' hg⟩

/-- THE STATEMENT -/
theorem proved : Rows.SigAddsSaid :=
  OpenClaim.holds_of_wide 3 Try.f3 rfl rfl rfl rfl rfl rfl rfl ⟨rfl, rfl, rfl, rfl, rfl⟩ rfl rfl rfl rfl rfl (by kernel_rfl) Try.func3 (by kernel_rfl)
    (of_decide_eq_true (by kernel_rfl)) (by unfold Func.isWrapper; first | (rw [if_pos (by decide +kernel)]; kernel_rfl) | (rw [if_neg (by decide +kernel)]; exact ⟨rfl, rfl⟩))
    (fun os started H enc _ => lifted os started H enc)
end Go.Proofs.Ytoabdeobaogkoaa.sigAdds
