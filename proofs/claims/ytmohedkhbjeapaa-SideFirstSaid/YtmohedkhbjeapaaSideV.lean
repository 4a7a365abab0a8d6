/-
  Contracts of package side: vary, fault.
-/
import Derived.Test.YtmohedkhbjeapaaSideK
namespace Go.Proofs.Ytmohedkhbjeapaa.Ex
open Go.RowKit Kit Rw
open Go.Proofs.Ytmohedkhbjeapaa.Sg (Sig findI Row)

/-- how a node's parts vary, in order; nothing, if it isn't known -/
def howV (L : List Sig) (n : Tg) : ByteArray := if n.1 = 4 ∨ n.1 = 5 then ⟨#[43, 43]⟩ else if n.1 = 3 ∨ n.1 = 6 then howK L n else ⟨#[]⟩

set_option maxRecDepth 100000 in
set_option maxHeartbeats 2000000 in
theorem vary8_any (A : Option Addr) (m c : Nat) (L : List Sig) (n : Tg) (w : World) (hm : m = L.length) (hr : Row w w.heap.size A L) (hl : L.length ≤ 1000) (hmay : mayN n = true) :
    Calls Try.prog 29 #[.slice A m c, .agg #[.int .i64 n.1, .string n.2.1, .int .i64 n.2.2]] w fun e w' => e = .returned (.string (howV L n)) ∧ Q w w' := by
  subst hm
  have hq := (Q.refl w).alloc (Obj.cells #[.int .i64 n.1, .string n.2.1, .int .i64 n.2.2] 38)
  have hO := own_new8 w [.int .i64 n.1, .string n.2.1, .int .i64 n.2.2] 38
  have hr1 := (hr.q (Nat.le_refl _) hq).more hq.size
  have CK := Lib.hid (fun (h : n.1 = 3 ∨ n.1 = 6) => known8_any A L.length c L n _ rfl hr1 hl hmay h)
  have hk := may_kinds hmay
  have x0 := (hO.2 0 _ rfl).1
  have x1 := (hO.2 1 _ rfl).1
  have x2 := (hO.2 2 _ rfl).1
  have HQ := Lib.hid hq
  obtain ⟨kd, nm, N⟩ := n
  simp only at hk x0 x1 x2 CK hr1 HQ ⊢
  have H12 : Hid (∀ k : Int, ¬ (k = 4 ∨ k = 5) → ¬ (k = 3 ∨ k = 6) → howV L (k, nm, N) = ⟨#[]⟩) := fun k h1 h2 => by unfold howV; rw [if_neg h1, if_neg h2]
  have H36 : Hid (∀ k : Int, ¬ (k = 4 ∨ k = 5) → (k = 3 ∨ k = 6) → howV L (k, nm, N) = howK L (k, nm, N)) := fun k h1 h2 => by unfold howV; rw [if_neg h1, if_pos h2]
  have H45 : Hid (∀ k : Int, (k = 4 ∨ k = 5) → howV L (k, nm, N) = ⟨#[43, 43]⟩) := fun k h1 => by unfold howV; rw [if_pos h1]
  clear hr hr1 hq hO hmay
  rcases hk with rfl | rfl | rfl | rfl | rfl | rfl | rfl
  · clear CK
    have HV := Lib.hid (H12.out 0 (by decide) (by decide))
    go_enter Try.func29, Try.ntmps29
    go_wp2_with fail
    go_ret
    exact ⟨by rw [HV.out]; rfl, HQ.out⟩
  · clear CK
    have HV := Lib.hid (H12.out 1 (by decide) (by decide))
    go_enter Try.func29, Try.ntmps29
    go_wp2_with fail
    go_ret
    exact ⟨by rw [HV.out]; rfl, HQ.out⟩
  · clear CK
    have HV := Lib.hid (H12.out 2 (by decide) (by decide))
    go_enter Try.func29, Try.ntmps29
    go_wp2_with fail
    go_ret
    exact ⟨by rw [HV.out]; rfl, HQ.out⟩
  · have HV := Lib.hid (H36.out 3 (by decide) (by decide))
    have C := Lib.hid (CK.out (by decide))
    clear CK
    go_enter Try.func29, Try.ntmps29
    go_wp2_with (go_at_call 40; refine C.out.mono ?_; rintro e w1 ⟨rfl, q1⟩; have HQ1 := Lib.hid (HQ.out.trans q1))
    go_ret
    exact ⟨by rw [HV.out]; rfl, HQ1.out⟩
  · clear CK
    have HV := Lib.hid (H45.out 4 (by decide))
    go_enter Try.func29, Try.ntmps29
    go_wp2_with fail
    go_ret
    exact ⟨by rw [HV.out]; rfl, HQ.out⟩
  · clear CK
    have HV := Lib.hid (H45.out 5 (by decide))
    go_enter Try.func29, Try.ntmps29
    go_wp2_with fail
    go_ret
    exact ⟨by rw [HV.out]; rfl, HQ.out⟩
  · have HV := Lib.hid (H36.out 6 (by decide) (by decide))
    have C := Lib.hid (CK.out (by decide))
    clear CK
    go_enter Try.func29, Try.ntmps29
    go_wp2_with (go_at_call 40; refine C.out.mono ?_; rintro e w1 ⟨rfl, q1⟩; have HQ1 := Lib.hid (HQ.out.trans q1))
    go_ret
    exact ⟨by rw [HV.out]; rfl, HQ1.out⟩

/-- each part's way; or no way is told, and all are as on both sides -/
theorem howV_parts {L : List Sig} {n : Tg} (hm : mayN n = true) : ((howV L n).size = np n ∧ ∀ (k : Nat) (h : k < (howV L n).size), (howV L n)[k] = varyB L n k) ∨ ((howV L n).size = 0 ∧ ∀ k t, k < np n → turnB t (varyB L n k) = 66) := by
  have hk := may_kinds hm
  by_cases h45 : n.1 = 4 ∨ n.1 = 5
  · left
    have e1 : howV L n = ⟨#[43, 43]⟩ := by unfold howV; rw [if_pos h45]
    refine ⟨by rw [e1, np_two hm h45]; rfl, fun k h => ?_⟩
    have e2 : varyB L n k = 43 := by unfold varyB; rw [if_pos h45]
    simp only [e1, e2]
    have h2 : k < 2 := by rw [e1] at h; exact h
    rcases k with _ | _ | k
    · rfl
    · rfl
    · omega
  · by_cases h36 : n.1 = 3 ∨ n.1 = 6
    · have e1 : howV L n = howK L n := by unfold howV; rw [if_neg h45, if_pos h36]
      cases hkn : knownB L n
      · right
        have e2 : howK L n = ⟨#[]⟩ := by unfold howK; rw [hkn]; rfl
        refine ⟨by rw [e1, e2]; rfl, fun k t _ => ?_⟩
        have e3 : varyB L n k = 61 := by unfold varyB; rw [if_neg h45, hkn, if_pos rfl]
        rw [e3]
        unfold turnB
        rw [if_neg (by decide), if_neg (by simp), if_neg (by simp)]
      · left
        have hf : ¬ findI n.2.1 L 0 < 0 := fun h => by unfold knownB at hkn; rw [if_pos h] at hkn; cases hkn
        by_cases h6 : n.1 = 6
        · have e2 : howK L n = (argsOf L n).extract (n.2.2 - 1).toNat n.2.2.toNat := by unfold howK; rw [hkn, if_pos rfl, if_pos h6]
          obtain ⟨hnp, f, hfe, f1, f8⟩ := np_proj hm h6
          have hs : f ≤ (argsOf L n).size := by
            unfold knownB at hkn
            rw [if_neg hf, if_neg (by omega), hfe] at hkn
            have := of_decide_eq_true hkn
            omega
          have e4 : (n.2.2 - 1).toNat = f - 1 := by omega
          have e5 : n.2.2.toNat = f := by omega
          rw [e4, e5] at e2
          refine ⟨by rw [e1, e2, ByteArray.size_extract, hnp]; omega, fun k h => ?_⟩
          have hk0 : k = 0 := by rw [e1, e2, ByteArray.size_extract] at h; omega
          subst hk0
          have e3 : varyB L n 0 = (argsOf L n)[f - 1]'(by omega) := by
            unfold varyB
            rw [if_neg h45, hkn, if_neg (by simp), if_pos h6, e4, List.getElem?_eq_getElem (by simp; omega)]
            rfl
          rw [e3]
          simp only [e1, e2]
          rw [ByteArray.getElem_extract]
          simp
        · have h3 : n.1 = 3 := h36.resolve_right h6
          have e2 : howK L n = argsOf L n := by unfold howK; rw [hkn, if_pos rfl, if_neg h6]
          have hs : (argsOf L n).size = np n := by
            unfold knownB at hkn
            rw [if_neg hf, if_pos h3] at hkn
            have h1 := of_decide_eq_true hkn
            have := (parts_nat hm).1
            unfold partsN at this
            rw [if_neg h6] at this
            omega
          refine ⟨by rw [e1, e2, hs], fun k h => ?_⟩
          have hk' : k < (argsOf L n).size := by rw [e1, e2] at h; exact h
          have e3 : varyB L n k = (argsOf L n)[k]'hk' := by
            unfold varyB
            rw [if_neg h45, hkn, if_neg (by simp), if_neg h6, List.getElem?_eq_getElem (by simpa using hk')]
            rfl
          rw [e3]
          simp only [e1, e2]
    · right
      have e1 : howV L n = ⟨#[]⟩ := by unfold howV; rw [if_neg h45, if_neg h36]
      refine ⟨by rw [e1]; rfl, fun k t hk0 => ?_⟩
      rw [np_leaf hm (by omega)] at hk0
      omega

/-- a node that may stand, or why it may not -/
theorem badN_eq (L : List Sig) (n : Tg) (on : UInt8) : badN L n on = if n.1 = 3 then whyK L n else if n.1 = 6 then (if whyK L n = 0 then onlyB 82 on else whyK L n) else if n.1 = 5 then onlyB 82 on else if n.1 = 4 then onlyB 76 on else 0 := by
  unfold badN whyK onlyB
  by_cases h3 : n.1 = 3
  · rw [if_pos h3]
    by_cases hf : findI n.2.1 L 0 < 0
    · rw [if_pos ⟨.inl h3, hf⟩, if_pos hf]
    · rw [if_neg (fun h => hf h.2), if_neg hf]
      cases hk : knownB L n
      · rw [if_pos ⟨.inl h3, rfl⟩]; rfl
      · rw [if_neg (by simp), if_neg (by omega)]; rfl
  · rw [if_neg h3]
    by_cases h6 : n.1 = 6
    · rw [if_pos h6]
      by_cases hf : findI n.2.1 L 0 < 0
      · rw [if_pos ⟨.inr h6, hf⟩, if_pos hf]; rfl
      · rw [if_neg (fun h => hf h.2), if_neg hf]
        cases hk : knownB L n
        · rw [if_pos ⟨.inr h6, rfl⟩]; rfl
        · rw [if_neg (by simp)]
          by_cases ho : on = 82
          · rw [if_neg (by rintro (⟨h, _⟩ | ⟨_, h⟩); omega; exact h ho)]; simp [ho]
          · rw [if_pos (.inr ⟨.inr h6, ho⟩)]; simp [ho]
    · rw [if_neg h6, if_neg (by omega), if_neg (by omega)]
      by_cases h5 : n.1 = 5
      · rw [if_pos h5]
        by_cases ho : on = 82
        · rw [if_neg (by rintro (⟨h, _⟩ | ⟨_, h⟩); omega; exact h ho)]; simp [ho]
        · rw [if_pos (.inr ⟨.inl h5, ho⟩)]; simp [ho]
      · rw [if_neg h5]
        by_cases h4 : n.1 = 4
        · rw [if_pos h4]
          by_cases ho : on = 76
          · rw [if_neg (by rintro (⟨_, h⟩ | ⟨h, _⟩); exact h ho; omega)]; simp [ho]
          · rw [if_pos (.inl ⟨h4, ho⟩)]; simp [ho]
        · rw [if_neg h4, if_neg (by omega)]

set_option maxRecDepth 100000 in
set_option maxHeartbeats 2000000 in
theorem fault_any (A : Option Addr) (m c : Nat) (L : List Sig) (n : Tg) (on : UInt8) (w : World) (hm : m = L.length) (hr : Row w w.heap.size A L) (hl : L.length ≤ 1000) (hmay : mayN n = true) :
    Calls Try.prog 23 #[.slice A m c, .agg #[.int .i64 n.1, .string n.2.1, .int .i64 n.2.2], .int .u8 (on.toNat : Int)] w fun e w' => e = .returned (.int .i64 (badN L n on)) ∧ Q w w' := by
  subst hm
  have hq := (Q.refl w).alloc (Obj.cells #[.int .i64 n.1, .string n.2.1, .int .i64 n.2.2] 38)
  have hO := own_new8 w [.int .i64 n.1, .string n.2.1, .int .i64 n.2.2] 38
  have hr1 := (hr.q (Nat.le_refl _) hq).more hq.size
  have CK := Lib.hid (fun (h : n.1 = 3 ∨ n.1 = 6) => known8_any A L.length c L n _ rfl hr1 hl hmay h)
  have C82 : Hid (∀ W : World, Calls Try.prog 41 #[.int .u8 82, .int .u8 (on.toNat : Int)] W fun e w' => e = .returned (.int .i64 (onlyB 82 on)) ∧ W = w') := fun W => only_any 82 on W
  have C76 : Hid (∀ W : World, Calls Try.prog 41 #[.int .u8 76, .int .u8 (on.toNat : Int)] W fun e w' => e = .returned (.int .i64 (onlyB 76 on)) ∧ W = w') := fun W => only_any 76 on W
  have hk := may_kinds hmay
  have x0 := (hO.2 0 _ rfl).1
  have x1 := (hO.2 1 _ rfl).1
  have x2 := (hO.2 2 _ rfl).1
  have HQ := Lib.hid hq
  have HB := Lib.hid (badN_eq L n on)
  generalize badN L n on = bad at *
  generalize hwy : whyK L n = why at *
  clear hwy
  generalize (on.toNat : Int) = ov at *
  generalize onlyB 82 on = o82 at *
  generalize onlyB 76 on = o76 at *
  obtain ⟨kd, nm, N⟩ := n
  simp only at hk x0 x1 x2 CK hr1 HQ HB ⊢
  clear hr hr1 hq hO hmay
  rcases hk with rfl | rfl | rfl | rfl | rfl | rfl | rfl
  · clear CK
    go_enter Try.func23, Try.ntmps23
    go_wp2_with fail
    go_ret
    exact ⟨by rw [HB.out]; rfl, HQ.out⟩
  · clear CK
    go_enter Try.func23, Try.ntmps23
    go_wp2_with fail
    go_ret
    exact ⟨by rw [HB.out]; rfl, HQ.out⟩
  · clear CK
    go_enter Try.func23, Try.ntmps23
    go_wp2_with fail
    go_ret
    exact ⟨by rw [HB.out]; rfl, HQ.out⟩
  · have C := Lib.hid (CK.out (by decide))
    clear CK
    go_enter Try.func23, Try.ntmps23
    go_wp2_with (go_at_call 40; refine C.out.mono ?_; rintro e w1 ⟨rfl, q1⟩; have HQ1 := Lib.hid (HQ.out.trans q1))
    go_ret
    exact ⟨by rw [HB.out]; rfl, HQ1.out⟩
  · clear CK
    go_enter Try.func23, Try.ntmps23
    go_wp2_with (go_at_call 41; refine (C76.out _).mono ?_; rintro e w1 ⟨rfl, rfl⟩)
    go_ret
    exact ⟨by rw [HB.out]; rfl, HQ.out⟩
  · clear CK
    go_enter Try.func23, Try.ntmps23
    go_wp2_with (go_at_call 41; refine (C82.out _).mono ?_; rintro e w1 ⟨rfl, rfl⟩)
    go_ret
    exact ⟨by rw [HB.out]; rfl, HQ.out⟩
  · have C := Lib.hid (CK.out (by decide))
    clear CK
    by_cases hw : why = 0
    · have e0 : (why == 0) = true := beq_iff_eq.2 hw
      have HB2 : Hid (bad = o82) := by rw [Hid, HB.out, if_neg (by decide), if_pos rfl, if_pos hw]
      clear hw HB
      go_enter Try.func23, Try.ntmps23
      go_wp2_with (first
        | (go_at_call 40; refine C.out.mono ?_; rintro e w1 ⟨rfl, q1⟩; have HQ1 := Lib.hid (HQ.out.trans q1))
        | (go_at_call 41; refine (C82.out _).mono ?_; rintro e w2 ⟨rfl, rfl⟩))
      go_ret
      exact ⟨by rw [HB2.out]; rfl, HQ1.out⟩
    · have e0 : (why == 0) = false := beq_eq_false_iff_ne.2 hw
      have HB2 : Hid (bad = why) := by rw [Hid, HB.out, if_neg (by decide), if_pos rfl, if_neg hw]
      clear hw HB
      go_enter Try.func23, Try.ntmps23
      go_wp2_with (go_at_call 40; refine C.out.mono ?_; rintro e w1 ⟨rfl, q1⟩; have HQ1 := Lib.hid (HQ.out.trans q1))
      go_ret
      exact ⟨by rw [HB2.out]; rfl, HQ1.out⟩
end Go.Proofs.Ytmohedkhbjeapaa.Ex
