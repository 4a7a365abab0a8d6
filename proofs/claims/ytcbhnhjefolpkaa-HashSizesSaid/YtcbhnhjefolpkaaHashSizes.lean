/-
  HashSizes holds: there are more slots than keys, at least a quarter free, no more than twice as many as are needed; as many for more keys, or more. No conditions.
-/
import Derived.Test.YtcbhnhjefolpkaaHashV
import Derived.Test.YtcbhnhjefolpkaaRows
namespace Go.Proofs.Ytcbhnhjefolpkaa.hashSizes
open Go.ChangeShapes Go.WideShapes Go.ChangeAt Go.RowKit Kit Hs

theorem size_mono {n m : Nat} (h : n ≤ m) : sizeN n ≤ sizeN m := by
  obtain ⟨k, e, _, h1⟩ := sizeN_spec n
  obtain ⟨k', e', h2, _⟩ := sizeN_spec m
  rcases Nat.lt_or_ge k' k with hk | hk
  · have hp : 2 ^ (k' + 1) ≤ 2 ^ k := Nat.pow_le_pow_right (by omega) hk
    rw [Nat.pow_succ] at hp
    rcases h1 with rfl | h1
    · omega
    · omega
  · have hp : 2 ^ k ≤ 2 ^ k' := Nat.pow_le_pow_right (by omega) hk
    omega

set_option maxRecDepth 100000 in
set_option maxHeartbeats 1000000 in
theorem walk_in (n m : Nat) (w : World) (hn : n ≤ 1000000) (hnm : n ≤ m) (hm : m ≤ 1000000) :
    Calls Try.prog 6 #[.int .i64 (n : Int), .int .i64 (m : Int)] w fun e w' => e = .returned (.bool true) ∧ Q w w' := by
  have h1 := sizeN_le n
  have h2 := sizeN_gt n
  have h3 := size_mono hnm
  have h4 := sizeN_le m
  have h6 : 4 * n ≤ 3 * sizeN n ∧ 8 ≤ sizeN n ∧ (sizeN n = 8 ∨ 3 * sizeN n < 8 * n) ∧ sizeN n % 2 = 0 := by
    obtain ⟨k, e, h, h'⟩ := sizeN_spec n
    have := pow_pos2 k
    rcases h' with rfl | h'
    · simp at e h; omega
    · omega
  obtain ⟨h6, h7, h8, h9⟩ := h6
  have hand : bits .and .i64 (sizeN n : Int) ((sizeN n : Int) - 1) = 0 := by
    obtain ⟨k, e, _⟩ := sizeN_spec n
    have e2 : sizeN n = 2 ^ (k + 3) := by rw [e, Nat.pow_add]; omega
    have h := (bits_nat .i64 40 (by decide) (fun x h0 h1 => by rw [IntKind.wrap_i64]; omega) (sizeN n) (sizeN n - 1) (by omega) (by omega)).1
    have e3 : sizeN n &&& (sizeN n - 1) = 0 := by rw [e2, Nat.and_two_pow_sub_one_eq_mod, Nat.mod_self]
    rw [e3] at h
    rwa [show ((sizeN n - 1 : Nat) : Int) = (sizeN n : Int) - 1 by omega] at h
  obtain ⟨s, hs⟩ : ∃ s, sizeN n = s := ⟨_, rfl⟩
  obtain ⟨t, ht⟩ : ∃ t, sizeN m = t := ⟨_, rfl⟩
  have HS := Lib.hid hs
  have HT := Lib.hid ht
  rw [hs] at h1 h2 h3 h6 h7 h8 h9 hand
  rw [ht] at h3 h4
  clear hs ht
  go_enter Try.func6, Try.ntmps6
  go_wp2_with fail
  refine (shown_any _).mono ?_
  rintro e w1 ⟨rfl, q1⟩
  go_wp2_with fail
  refine (size_any n _ hn).mono ?_
  rintro e w2 ⟨rfl, rfl⟩
  rw [HS.out]
  by_cases h8' : s = 8
  · have hne : ((s : Int) == 8) = true := by simp; omega
    have Hs8 := Lib.hid h8'
    clear h8' h8
    go_wp2_with fail
    refine (size_any m _ hm).mono ?_
    rintro e w2 ⟨rfl, rfl⟩
    rw [HT.out]
    go_wp2_with fail
    go_ret
    exact ⟨rfl, q1⟩
  · have hne : ((s : Int) == 8) = false := by simp; omega
    have hd : decide ((s : Int) / 2 * 3 < (n : Int) * 4) = true := by simp; omega
    go_wp2_with fail
    refine (size_any m _ hm).mono ?_
    rintro e w2 ⟨rfl, rfl⟩
    rw [HT.out]
    go_wp2_with fail
    go_ret
    exact ⟨rfl, q1⟩

theorem walk (n m : Int) (w : World) : Calls Try.prog 6 #[.int .i64 n, .int .i64 m] w fun e w' => e = .returned (.bool true) ∧ Q w w' := by
  by_cases h1 : n < 0
  · have d1 : decide (n < 0) = true := decide_eq_true h1
    go_enter Try.func6, Try.ntmps6
    go_wp2_with fail
    refine (shown_any _).mono ?_
    rintro e w1 ⟨rfl, q1⟩
    go_wp2_with fail
    go_ret
    exact ⟨rfl, q1⟩
  · by_cases h2 : 1000000 < n
    · have d1 : decide (n < 0) = false := decide_eq_false h1
      have d2 : decide (1000000 < n) = true := decide_eq_true h2
      go_enter Try.func6, Try.ntmps6
      go_wp2_with fail
      refine (shown_any _).mono ?_
      rintro e w1 ⟨rfl, q1⟩
      go_wp2_with fail
      go_ret
      exact ⟨rfl, q1⟩
    · by_cases h3 : m < n
      · have d1 : decide (n < 0) = false := decide_eq_false h1
        have d2 : decide (1000000 < n) = false := decide_eq_false h2
        have d3 : decide (m < n) = true := decide_eq_true h3
        go_enter Try.func6, Try.ntmps6
        go_wp2_with fail
        refine (shown_any _).mono ?_
        rintro e w1 ⟨rfl, q1⟩
        go_wp2_with fail
        go_ret
        exact ⟨rfl, q1⟩
      · by_cases h4 : 1000000 < m
        · have d1 : decide (n < 0) = false := decide_eq_false h1
          have d2 : decide (1000000 < n) = false := decide_eq_false h2
          have d3 : decide (m < n) = false := decide_eq_false h3
          have d4 : decide (1000000 < m) = true := decide_eq_true h4
          go_enter Try.func6, Try.ntmps6
          go_wp2_with fail
          refine (shown_any _).mono ?_
          rintro e w1 ⟨rfl, q1⟩
          go_wp2_with fail
          go_ret
          exact ⟨rfl, q1⟩
        · obtain ⟨a, rfl⟩ := Int.eq_ofNat_of_zero_le (show 0 ≤ n by omega)
          obtain ⟨b, rfl⟩ := Int.eq_ofNat_of_zero_le (show 0 ≤ m by omega)
          exact walk_in a b w (by omega) (by omega) (by omega)

set_option maxRecDepth 100000 in
theorem lifted (os : Os) (started : os.Started) (H : Type) (enc : TypeId × Value → H) :
    ReturnsInHanded {} Try.checked os 6 .any (Rows.hashSizesSpec.pre6 enc Try.prog Try.f6 Rows.hashSizesRow.domain false) (Rows.hashSizesSpec.post enc Try.prog Try.f6 false true false false) := by
  refine returnsInHanded_of_change (C := Try.checked) own started (by kernel_rfl) Try.func6
    (ChangeSpec.witness6 (enc := enc) (C := Try.checked) false ⟨#[], #[.int .i64 0, .int .i64 0], []⟩ 8 (by kernel_rfl) (by kernel_rfl) (by kernel_rfl) (by kernel_rfl)) ?_
  intro W base args ds gs before hval0 hW hcnd _
  have hval : ∀ (j : Nat) t v, Try.f6.params[j]? = some t → args[j]? = some v → Value.okWide Try.prog W .any base t v := hval0
  have hW' := hW
  obtain ⟨p, q, hA0, hV, rfl, hfz, hnd⟩ := hW
  have hA : DataW.TrodAll enc Try.prog W 0 (fun _ => true) true Try.f6.params.toList args.toList ds p := hA0
  rw [Try.params6] at hA hval
  obtain ⟨v0, vs0, d0, ds0, p0, q0, hargs, rfl, rfl, h0, r0⟩ := trodAll_cons hA
  obtain ⟨v1, vs1, d1, ds1, p1, q1, rfl, rfl, rfl, h1, r1⟩ := trodAll_cons r0
  obtain ⟨rfl, rfl, rfl⟩ := trodAll_nil r1
  obtain rfl : args = #[v0, v1] := by cases args; simp_all
  obtain ⟨rfl, rfl⟩ := trodVars_none hV
  obtain ⟨a0, rfl, rfl, rfl, w0⟩ := open_int Try.underlying3 (hval 0 3 v0 rfl rfl) h0
  obtain ⟨a1, rfl, rfl, rfl, w1⟩ := open_int Try.underlying3 (hval 1 3 v1 rfl rfl) h1
  clear hA0 hval0
  refine (walk a0 a1 W).mono fun e W' ⟨he, hg⟩ => ?_
  subst he
  exact ⟨_, rfl, post_law laid (by rw [Try.params6]; decide +kernel) rfl rfl (by kernel_rfl) Try.underlying4 hW' hg⟩

/-- THE STATEMENT -/
theorem proved : Rows.HashSizesSaid :=
  OpenClaim.holds_of_wide 6 Try.f6 rfl rfl rfl rfl rfl rfl rfl ⟨rfl, rfl, rfl, rfl, rfl⟩ rfl rfl rfl rfl rfl (by kernel_rfl) Try.func6 (by kernel_rfl)
    (of_decide_eq_true (by kernel_rfl)) (by unfold Func.isWrapper; first | (rw [if_pos (by decide +kernel)]; kernel_rfl) | (rw [if_neg (by decide +kernel)]; exact ⟨rfl, rfl⟩))
    (fun os started H enc _ => lifted os started H enc)
end Go.Proofs.Ytcbhnhjefolpkaa.hashSizes
