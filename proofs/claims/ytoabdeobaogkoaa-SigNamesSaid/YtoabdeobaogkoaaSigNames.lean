/-
  SigNames holds: a text is a constructor's name, a variable's, or none; with a byte more it is still one, just if the byte may stand in a name and it isn't too long. No conditions.
-/
import Derived.Test.YtoabdeobaogkoaaSigF
import Derived.Test.YtoabdeobaogkoaaRows
import Derived.OpenShut
import Derived.Deep.DeepCutAuto
namespace Go.Proofs.Ytoabdeobaogkoaa.sigNames
open Go.ChangeShapes Go.WideShapes Go.ChangeAt Go.RowKit Kit Sg
open Go.ChangeMaps (open_string shut_string)

theorem name_snoc (lo hi : Int) (s : ByteArray) (b : UInt8) (h : s.size ≠ 0) : nameB lo hi (s ++ ⟨#[b]⟩ : ByteArray).data.toList = (nameB lo hi s.data.toList && (goesB b.toNat && decide (s.size < 20))) := by
  have e : (s ++ (⟨#[b]⟩ : ByteArray)).data.toList = s.data.toList ++ [b] := by simp
  have hl : s.data.toList.length = s.size := by simp
  rw [e]
  match hs : s.data.toList with
  | [] => rw [hs] at hl; simp at hl; omega
  | c :: l =>
    rw [hs] at hl
    simp only [List.length_cons] at hl
    show (decide ((c :: (l ++ [b])).length ≤ 20) && inB lo hi c.toNat && restB ((c :: l) ++ [b])) = _
    rw [restB_snoc (c :: l) b (by simp)]
    simp only [nameB]
    have d : decide ((c :: (l ++ [b])).length ≤ 20) = (decide ((c :: l).length ≤ 20) && decide (s.size < 20)) := by
      rw [Bool.eq_iff_iff]; simp only [Bool.and_eq_true, decide_eq_true_eq, List.length_cons, List.length_append, List.length_nil]; omega
    rw [d]
    generalize decide ((c :: l).length ≤ 20) = p, decide (s.size < 20) = q, inB lo hi c.toNat = r, restB (c :: l) = t, goesB b.toNat = g
    revert p q r t g; decide
theorem name_short {lo hi : Int} {s : ByteArray} (h : nameB lo hi s.data.toList = true) : s.size ≤ 20 := by
  rcases Nat.lt_or_ge 20 s.size with h' | h'
  · rw [nameB_long lo hi s h'] at h; cases h
  · exact h'
theorem not_both (s : ByteArray) (h1 : nameB 97 122 s.data.toList = true) (h2 : nameB 65 90 s.data.toList = true) : False := by
  match hs : s.data.toList with
  | [] => rw [hs] at h1; cases h1
  | c :: l =>
    rw [hs] at h1 h2
    simp only [nameB, inB, Bool.and_eq_true, decide_eq_true_eq] at h1 h2
    omega

theorem conv (u : World) (b : UInt8) : (convert 38 9 (.slice (some ⟨u.heap.size, 0, none⟩) 1 1)).run Try.prog (u.alloc (.cells #[.int .u8 b.toNat] 5)) = .ok (.string ⟨#[b]⟩) (u.alloc (.cells #[.int .u8 b.toNat] 5)) :=
  run_convert_bytes_back (P := Try.prog) _ 38 9 5 ⟨u.heap.size, 0, none⟩ 1 [b] Try.underlying38 Try.underlying5 Try.underlying9 (by
    intro j hj
    simp at hj
    subst hj
    rw [add_zero_head, cell_of_row _ _ _ _ _ _ (heap_alloc_new u _)]
    rfl)

set_option maxRecDepth 100000 in
set_option maxHeartbeats 400000 in
theorem walk (s : ByteArray) (b : UInt8) (w : World) :
    Calls Try.prog 6 #[.string s, .int .u8 b.toNat] w fun e w' => e = .returned (.bool true) ∧ Q w w' := by
  by_cases h50 : 50 < s.size
  · go_enter Try.func6, Try.ntmps6
    go_wp2_with fail
    refine (shown_any _).mono ?_
    rintro e w1 ⟨rfl, q1⟩
    go_wp2_with fail
    go_ret
    exact ⟨rfl, q1⟩
  · have d50 : decide (50 < (s.size : Int)) = false := by simp; omega
    go_enter Try.func6, Try.ntmps6
    go_wp2_with fail
    refine (shown_any _).mono ?_
    rintro e w1 ⟨rfl, q1⟩
    go_wp2_with fail
    refine (isCon_any _ _).mono ?_
    rintro e w2 ⟨rfl, q2⟩
    go_wp2_with fail
    refine (isVar_any _ _).mono ?_
    rintro e w3 ⟨rfl, q3⟩
    go_upto_region 6 with fail
    go_cut [8] (fun m wx => m = .bool (goesB b.toNat) ∧ wx = w3)
    case first =>
      go_wp2_with fail
      all_goals go_meet
      all_goals
        refine ⟨congrArg Value.bool ?_, rfl⟩
        rw [Bool.eq_iff_iff]
        simp only [goesB, inB, Bool.or_eq_true, Bool.and_eq_true, decide_eq_true_eq, beq_iff_eq]
        first | omega | (refine ⟨fun _ => ?_, fun _ => trivial⟩; omega)
    case rest =>
      obtain ⟨rfl, rfl⟩ := hcut
      have hcv := conv wc b
      have q13 := q1.trans (q2.trans q3)
      by_cases hs : s.size = 0
      · have es : s = ByteArray.empty := by
          apply ByteArray.ext
          exact Array.eq_empty_of_size_eq_zero hs
        subst es
        have n1 : nameB 97 122 ByteArray.empty.data.toList = false := rfl
        have n2 : nameB 65 90 ByteArray.empty.data.toList = false := rfl
        rw [n1, n2]
        go_wp2_with fail
        go_ret
        exact ⟨rfl, q13.alloc _⟩
      · have hs1 : 1 ≤ (s.size : Int) := by omega
        have hs2 : ((s.size : Int) == 0) = false := by simpa using hs
        have hs3 : ¬ s = ByteArray.empty := fun e => hs (by rw [e]; rfl)
        have hs4 : decide ((s.size : Int) < 1) = false := by simp; omega
        have HC := Lib.hid (name_snoc 97 122 s b hs)
        have HV := Lib.hid (name_snoc 65 90 s b hs)
        have H2 := Lib.hid (not_both s)
        cases hc : nameB 97 122 s.data.toList <;> cases hv : nameB 65 90 s.data.toList
        case true.true => exact (H2.out hc hv).elim
        all_goals
          have H20 : Hid (nameB 97 122 s.data.toList = true ∨ nameB 65 90 s.data.toList = true → s.size ≤ 20) := fun h => h.elim name_short name_short
          cases hg : goesB b.toNat <;> by_cases h20 : s.size < 20
          all_goals
            rw [hc] at HC
            rw [hv] at HV
            rw [hg] at HC HV
            have d20 : decide ((s.size : Int) < 20) = decide (s.size < 20) := by rw [Bool.eq_iff_iff]; simp only [decide_eq_true_eq]; omega
            first | rw [decide_eq_true h20] at d20 HC HV | rw [decide_eq_false h20] at d20 HC HV
            first
              | (have h21 : decide (20 < (s.size : Int)) = false := by (have := H20.out (.inl hc); simp; omega))
              | (have h21 : decide (20 < (s.size : Int)) = false := by (have := H20.out (.inr hv); simp; omega))
              | skip
            go_wp2_with fail
            refine (isCon_any _ _).mono ?_
            rintro e w4 ⟨rfl, q4⟩
            rw [HC.out]
            go_wp2_with fail
            refine (isVar_any _ _).mono ?_
            rintro e w5 ⟨rfl, q5⟩
            rw [HV.out]
            go_wp2_with fail
            go_ret
            exact ⟨rfl, ((q13.alloc _).trans q4).trans q5⟩

set_option maxRecDepth 100000 in
theorem lifted (os : Os) (started : os.Started) (H : Type) (enc : TypeId × Value → H) :
    ReturnsInHanded {} Try.checked os 6 .any (Rows.sigNamesSpec.pre6 enc Try.prog Try.f6 Rows.sigNamesRow.domain false) (Rows.sigNamesSpec.post enc Try.prog Try.f6 false true false false) := by
  refine returnsInHanded_of_change (C := Try.checked) own started (by kernel_rfl) Try.func6
    (ChangeSpec.witness6 (enc := enc) (C := Try.checked) false ⟨#[], #[.string .empty, .int .u8 0], []⟩ 8 (by kernel_rfl) (by kernel_rfl) (by kernel_rfl) (by kernel_rfl)) ?_
  intro W base args ds gs before hval0 hW hcnd _
  have hval : ∀ (j : Nat) t v, Try.f6.params[j]? = some t → args[j]? = some v → Value.okWide Try.prog W .any base t v := hval0
  have hW' := hW
  obtain ⟨p, q, hA0, hV, rfl, hfz, hnd⟩ := hW
  have hA : DataW.TrodAll enc Try.prog W 0 (fun _ => true) true Try.f6.params.toList args.toList ds p := hA0
  rw [Try.params6] at hA hval
  obtain ⟨v0, vs0, d0, ds0, p0, q0, hargs, rfl, rfl, h0, r0⟩ := trodAll_cons hA
  obtain ⟨v1, vs1, d1, ds1, p1, q1, rfl, rfl, rfl, h1, r1⟩ := trodAll_cons r0
  obtain ⟨rfl, rfl, rfl⟩ := trodAll_nil r1
  obtain rfl : args = #[v0, v1] := by cases args; simp_all
  obtain ⟨rfl, rfl⟩ := trodVars_none hV
  obtain ⟨s, rfl, rfl, rfl, hmax⟩ := open_string Try.underlying9 (hval 0 9 v0 rfl rfl) h0
  obtain ⟨a1, rfl, rfl, rfl, w1⟩ := open_int Try.underlying5 (hval 1 5 v1 rfl rfl) h1
  have hx : 0 ≤ a1 ∧ a1 ≤ 255 := by simpa [Lit.wf, IntKind.min, IntKind.max, IntKind.signed, IntKind.bits] using w1
  have hb : a1 = ((UInt8.ofNat a1.toNat).toNat : Int) := by simp; omega
  generalize UInt8.ofNat a1.toNat = b at hb
  subst hb
  clear hA0 hval0
  refine (walk s b W).mono fun e W' ⟨he, hg⟩ => ?_
  subst he
  exact ⟨_, rfl, post_law laid (by rw [Try.params6]; decide +kernel) rfl rfl (by kernel_rfl) Try.underlying4 hW' hg⟩

/-- THE STATEMENT -/
theorem proved : Rows.SigNamesSaid :=
  OpenClaim.holds_of_wide 6 Try.f6 rfl rfl rfl rfl rfl rfl rfl ⟨rfl, rfl, rfl, rfl, rfl⟩ rfl rfl rfl rfl rfl (by kernel_rfl) Try.func6 (by kernel_rfl)
    (of_decide_eq_true (by kernel_rfl)) (by unfold Func.isWrapper; first | (rw [if_pos (by decide +kernel)]; kernel_rfl) | (rw [if_neg (by decide +kernel)]; exact ⟨rfl, rfl⟩))
    (fun os started H enc _ => lifted os started H enc)
end Go.Proofs.Ytoabdeobaogkoaa.sigNames
