/-
  SideBoth holds: what may stand on both sides may stand on each; what may on neither, may not on both; a variable, and what has no parts, may everywhere. No conditions.
-/
import Derived.Test.YtmohedkhbjeapaaSideA
import Derived.Test.YtmohedkhbjeapaaRef1Open
import Derived.Test.YtmohedkhbjeapaaExprOpen
import Derived.Test.YtmohedkhbjeapaaRows
import Derived.OpenShut
import Derived.RegionTactic
namespace Go.Proofs.Ytmohedkhbjeapaa.sideBoth
open Go.ChangeShapes Go.WideShapes Go.ChangeAt Go.RowKit Kit Rw Ex
open Go.ChangeMaps (open_string shut_string)
open Go.Proofs.Ytmohedkhbjeapaa.Sg (Sig Row Sized)

theorem two_ok (L : List Sig) {l : List Tg} {x : Ex} (hs : runS [] l = some [x]) (h : (checkF L l (x.sides L 66) 0).2 = 0) : (∀ (j : Nat) (hj : j < l.length), ¬ (l[j].1 = 4 ∨ l[j].1 = 5 ∨ l[j].1 = 6)) ∧ ∀ s, (checkF L l (x.sides L s) 0).2 = 0 := by
  have hx : x.size = l.length := by
    have := run_sum (i := l.length) (by rw [List.take_length]; exact hs) (Nat.le_refl _)
    simpa [sumS] using this
  have hB := (checkF_ok L l (x.sides L 66) 0 (by rw [sides_len, hx])).1 h
  have h66 : ∀ (j : Nat) (hj : j < l.length), badN L l[j] 66 = 0 := fun j hj => by
    have := hB j hj (by rw [sides_len, hx]; exact hj)
    have e : (x.sides L 66)[j]'(by rw [sides_len, hx]; exact hj) = 66 := by simp only [sides_B L x, List.getElem_replicate]
    rwa [e] at this
  exact ⟨fun j hj => (bad_both (h66 j hj)).1, fun s => (checkF_ok L l (x.sides L s) 0 (by rw [sides_len, hx])).2 fun j hj hj' => (bad_both (h66 j hj)).2 _⟩
theorem add_zero_head' (a : Addr) : a.add 0 = a := by simp [Addr.add]
theorem one_ok (L : List Sig) {l : List Tg} {x : Ex} (hm : ∀ t ∈ l, mayN t = true) (hs : runS [] l = some [x]) (h1 : l.length = 1) : (∃ h : 0 < l.length, l[0].1 = 3) ∨ ∀ s, (checkF L l (x.sides L s) 0).2 = 0 := by
  obtain ⟨n, rfl⟩ : ∃ n, l = [n] := by
    match l, h1 with
    | [n], _ => exact ⟨n, rfl⟩
  have hx : x.size = 1 := by
    have := run_sum (i := 1) (l := [n]) (sk := [x]) hs (Nat.le_refl _)
    simpa [sumS] using this
  obtain ⟨sn, hsn⟩ := run_take hs 1
  obtain ⟨hnp, _⟩ := run_next (l := [n]) (j := 0) (by simp) (st := []) rfl hsn
  have hn0 : np n = 0 := by simpa using hnp
  have hmn := hm n (by simp)
  have hk : n.1 = 3 ∨ (n.1 = 0 ∨ n.1 = 1 ∨ n.1 = 2) := by
    rcases may_kinds hmn with h | h | h | h | h | h | h
    · exact .inr (.inl h)
    · exact .inr (.inr (.inl h))
    · exact .inr (.inr (.inr h))
    · exact .inl h
    · rw [np_two hmn (.inl h)] at hn0; cases hn0
    · rw [np_two hmn (.inr h)] at hn0; cases hn0
    · rw [(np_proj hmn h).1] at hn0; cases hn0
  rcases hk with h | h
  · exact .inl ⟨by simp, h⟩
  · refine .inr fun s => (checkF_ok L [n] (x.sides L s) 0 (by rw [sides_len, hx]; rfl)).2 fun j hj hj' => ?_
    have : j = 0 := by simp at hj; exact hj
    subst this
    exact bad_leaf h _
set_option maxRecDepth 100000 in
set_option maxHeartbeats 8000000 in
theorem walk (A B : Option Addr) (m c n d : Nat) (L : List Sig) (l : List Tg) (w : World) (hm : m = L.length) (hn : n = l.length) (hL : Row w w.heap.size A L) (hS : Sized L) (hl8 : L.length ≤ maxLen) (hr : Rds w w.heap.size B (cellsG l)) (hl : l.length ≤ 140737488355328) (hz : ∀ t ∈ l, t.2.1.size ≤ 140737488355328) :
    Calls Try.prog 4 #[.slice A m c, .slice B n d] w fun e w' => e = .returned (.bool true) ∧ Q w w' := by
  subst hm hn
  have HL := Lib.hid hL
  have HR := Lib.hid hr
  have CO := Lib.hid (fun (W : World) (q : Q w W) => of_any8 A B L.length c l.length d L l W rfl rfl ((hL.q (Nat.le_refl _) q).more q.size) hS hl8 (hr.q q) hl hz)
  clear hL hS hr hz
  cases hof : ofB L l
  · rw [hof] at CO
    clear hof
    go_enter Try.func4, Try.ntmps4
    go_wp2_with fail
    refine (shown8_any _).mono ?_
    rintro e w1 ⟨rfl, q1⟩
    have p1 := Lib.hid q1
    clear q1
    go_wp2_with fail
    refine (CO.out _ p1.out).mono ?_
    rintro e w2 ⟨rfl, q2⟩
    have p2 := Lib.hid (p1.out.trans q2)
    clear q2
    go_wp2_with fail
    go_ret
    exact ⟨rfl, p2.out⟩
  · rw [hof] at CO
    obtain ⟨h64, hf, hm, ⟨x, hs⟩, hpos, h600⟩ := ofB_out hof
    have CC := Lib.hid (fun (s : UInt8) (W : World) (q : Q w W) => sideCheck_any A B L.length c l.length d L l x s W rfl rfl ((HL.out.q (Nat.le_refl _) q).more q.size) (HR.out.q q) (by omega) h600 hm hs)
    have C76 : Hid (∀ W : World, Q w W → Calls Try.prog 12 #[.slice A L.length c, .slice B l.length d, .int .u8 76] W fun e w' => e = .returned (.tuple #[.int .i64 (checkF L l (x.sides L 76) 0).1, .int .i64 (checkF L l (x.sides L 76) 0).2]) ∧ Q W w') := CC.out 76
    have C82 : Hid (∀ W : World, Q w W → Calls Try.prog 12 #[.slice A L.length c, .slice B l.length d, .int .u8 82] W fun e w' => e = .returned (.tuple #[.int .i64 (checkF L l (x.sides L 82) 0).1, .int .i64 (checkF L l (x.sides L 82) 0).2]) ∧ Q W w') := CC.out 82
    have C66 : Hid (∀ W : World, Q w W → Calls Try.prog 12 #[.slice A L.length c, .slice B l.length d, .int .u8 66] W fun e w' => e = .returned (.tuple #[.int .i64 (checkF L l (x.sides L 66) 0).1, .int .i64 (checkF L l (x.sides L 66) 0).2]) ∧ Q W w') := CC.out 66
    have hbo := two_ok L hs
    have hone := one_ok L hm hs
    have hmk : ∀ (j : Nat) (hj : j < l.length), l[j].1 ≤ 6 := fun j hj => by
      rcases may_kinds (hm l[j] (List.getElem_mem hj)) with h | h | h | h | h | h | h <;> omega
    clear CC hof hf hm hs h64
    have hone := Lib.hid hone
    by_cases hc : (checkF L l (x.sides L 66) 0).2 = 0
    · obtain ⟨hk, hall⟩ := hbo hc
      rw [hc] at C66
      rw [hall 76] at C76
      rw [hall 82] at C82
      have HK : Hid (∀ (j : Nat) (hj : j < l.length), decide (3 < l[j].1) = false) := fun j hj => decide_eq_false (by
        have h1 := hk j hj
        have h2 := hmk j hj
        omega)
      clear hbo hk hall hc hmk hone
      generalize (checkF L l (x.sides L 76) 0).1 = r1 at *
      generalize (checkF L l (x.sides L 82) 0).1 = r2 at *
      generalize (checkF L l (x.sides L 66) 0).1 = r3 at *
      go_enter Try.func4, Try.ntmps4
      go_wp2_with fail
      refine (shown8_any _).mono ?_
      rintro e w1 ⟨rfl, q1⟩
      have p1 := Lib.hid q1
      clear q1
      go_wp2_with fail
      refine (CO.out _ p1.out).mono ?_
      rintro e w2 ⟨rfl, q2⟩
      have p2 := Lib.hid (p1.out.trans q2)
      clear q2
      go_wp2_with fail
      refine (C76.out _ p2.out).mono ?_
      rintro e w3 ⟨rfl, q3⟩
      have p3 := Lib.hid (p2.out.trans q3)
      clear q3
      go_wp2_with fail
      refine (C82.out _ p3.out).mono ?_
      rintro e w4 ⟨rfl, q4⟩
      have p4 := Lib.hid (p3.out.trans q4)
      clear q4
      go_wp2_with fail
      refine (C66.out _ p4.out).mono ?_
      rintro e w5 ⟨rfl, q5⟩
      have p5 := Lib.hid (p4.out.trans q5)
      clear q5
      obtain ⟨ad, rfl, _, k0, _, _⟩ := tok_at (HR.out.q p5.out) hpos
      rw [show ad.add (0 * 3) = ad by rw [Nat.zero_mul]; exact add_zero_head' ad] at k0
      go_wp2_with fail
      go_loopw [12] (fun i wr => ∃ k : Nat, k ≤ l.length ∧ i = .int .i64 k ∧ w5 = wr) (fun i _ => l.length - (intOf i).toNat)
      case atStart => exact ⟨0, Nat.zero_le _, rfl, rfl⟩
      case round =>
        obtain ⟨k, hk, rfl, rfl⟩ := hrel
        by_cases hlt : k < l.length
        · obtain ⟨ad', e', hb, c0, _, _⟩ := tok_at (HR.out.q p5.out) hlt
          injection e' with e'
          subst e'
          clear k0
          have dk := HK.out k hlt
          generalize l[k].1 = kd at *
          go_wp2_with fail
          go_roundw
          case rel => exact ⟨k + 1, by omega, by go_num, by trivial⟩
          case measure => simp [intOf]; omega
        · clear HK
          by_cases h1 : 1 < l.length
          · have d1 : decide (1 < (l.length : Int)) = true := decide_eq_true (by omega)
            have d2 : decide (1 < l.length) = true := decide_eq_true h1
            go_wp2_with fail
            go_ret
            exact ⟨by first | rfl | simp, p5.out⟩
          · have d1 : decide (1 < (l.length : Int)) = false := decide_eq_false (by omega)
            have d2 : decide (1 < l.length) = false := decide_eq_false h1
            generalize l[0].1 = kd at *
            cases h3 : (kd == 3)
            · go_wp2_with fail
              go_ret
              exact ⟨by first | rfl | simp, p5.out⟩
            · go_wp2_with fail
              go_ret
              exact ⟨by first | rfl | simp, p5.out⟩
    · have ec : ((checkF L l (x.sides L 66) 0).2 == 0) = false := beq_eq_false_iff_ne.2 hc
      have hc := Lib.hid hc
      have HK : Hid True := trivial
      clear hbo hmk
      generalize (checkF L l (x.sides L 76) 0).1 = r1 at *
      generalize (checkF L l (x.sides L 82) 0).1 = r2 at *
      generalize (checkF L l (x.sides L 66) 0).1 = r3 at *
      go_enter Try.func4, Try.ntmps4
      go_wp2_with fail
      refine (shown8_any _).mono ?_
      rintro e w1 ⟨rfl, q1⟩
      have p1 := Lib.hid q1
      clear q1
      go_wp2_with fail
      refine (CO.out _ p1.out).mono ?_
      rintro e w2 ⟨rfl, q2⟩
      have p2 := Lib.hid (p1.out.trans q2)
      clear q2
      go_wp2_with fail
      refine (C76.out _ p2.out).mono ?_
      rintro e w3 ⟨rfl, q3⟩
      have p3 := Lib.hid (p2.out.trans q3)
      clear q3
      go_wp2_with fail
      refine (C82.out _ p3.out).mono ?_
      rintro e w4 ⟨rfl, q4⟩
      have p4 := Lib.hid (p3.out.trans q4)
      clear q4
      go_wp2_with fail
      refine (C66.out _ p4.out).mono ?_
      rintro e w5 ⟨rfl, q5⟩
      have p5 := Lib.hid (p4.out.trans q5)
      clear q5
      obtain ⟨ad, rfl, _, k0, _, _⟩ := tok_at (HR.out.q p5.out) hpos
      rw [show ad.add (0 * 3) = ad by rw [Nat.zero_mul]; exact add_zero_head' ad] at k0
      go_wp2_with fail
      go_loopw [12] (fun i wr => ∃ k : Nat, k ≤ l.length ∧ i = .int .i64 k ∧ w5 = wr) (fun i _ => l.length - (intOf i).toNat)
      case atStart => exact ⟨0, Nat.zero_le _, rfl, rfl⟩
      case round =>
        obtain ⟨k, hk, rfl, rfl⟩ := hrel
        by_cases hlt : k < l.length
        · obtain ⟨ad', e', hb, c0, _, _⟩ := tok_at (HR.out.q p5.out) hlt
          injection e' with e'
          subst e'
          clear k0
          generalize l[k].1 = kd at *
          by_cases h3 : 3 < kd
          · have dk : decide (3 < kd) = true := decide_eq_true h3
            clear h3
            go_wp2_with fail
            go_roundw
            case rel => exact ⟨k + 1, by omega, by go_num, by trivial⟩
            case measure => simp [intOf]; omega
          · have dk : decide (3 < kd) = false := decide_eq_false h3
            clear h3
            go_wp2_with fail
            go_roundw
            case rel => exact ⟨k + 1, by omega, by go_num, by trivial⟩
            case measure => simp [intOf]; omega
        · clear HK
          by_cases h1 : 1 < l.length
          · have d1 : decide (1 < (l.length : Int)) = true := decide_eq_true (by omega)
            have d2 : decide (1 < l.length) = true := decide_eq_true h1
            go_wp2_with fail
            go_ret
            exact ⟨by first | rfl | simp, p5.out⟩
          · have d1 : decide (1 < (l.length : Int)) = false := decide_eq_false (by omega)
            have d2 : decide (1 < l.length) = false := decide_eq_false h1
            have h3 : (l[0].1 == 3) = true := by
              rcases hone.out (by omega) with ⟨_, h⟩ | h
              · exact beq_iff_eq.2 h
              · exact absurd (h 66) hc.out
            generalize l[0].1 = kd at *
            go_wp2_with fail
            go_ret
            exact ⟨by first | rfl | simp, p5.out⟩

set_option maxRecDepth 100000 in
theorem lifted (os : Os) (started : os.Started) (H : Type) (enc : TypeId × Value → H) :
    ReturnsInHanded {} Try.checked os 4 .any (Rows.sideBothSpec.pre6 enc Try.prog Try.f4 Rows.sideBothRow.domain false) (Rows.sideBothSpec.post enc Try.prog Try.f4 false true false false) := by
  refine returnsInHanded_of_change_sized (C := Try.checked) own started (by kernel_rfl) Try.func4
    (ChangeSpec.witness6 (enc := enc) (C := Try.checked) false ⟨#[], #[.slice none 0 0, .slice none 0 0], []⟩ 8 (by kernel_rfl) (by kernel_rfl) (by kernel_rfl) (by kernel_rfl)) ?_
  intro W base args ds gs before hval0 hW hcnd hsz0 _
  have hval : ∀ (j : Nat) t v, Try.f4.params[j]? = some t → args[j]? = some v → Value.okWide Try.prog W .any base t v := hval0
  have hW' := hW
  obtain ⟨p, q, hA0, hV, rfl, hfz, hnd⟩ := hW
  have hA : DataW.TrodAll enc Try.prog W 0 (fun _ => true) true Try.f4.params.toList args.toList ds p := hA0
  rw [Try.params4] at hA hval
  obtain ⟨v0, vs0, d0, ds0, p0, q0, hargs, rfl, rfl, h0, r0⟩ := trodAll_cons hA
  obtain ⟨v1, vs1, d1, ds1, p1, q1, rfl, rfl, rfl, h1, r1⟩ := trodAll_cons r0
  obtain ⟨rfl, rfl, rfl⟩ := trodAll_nil r1
  obtain rfl : args = #[v0, v1] := by cases args; simp_all
  obtain ⟨rfl, rfl⟩ := trodVars_none hV
  have z0 : ∀ n ∈ d0.weights Try.prog 22, n ≤ reachBytes := fun n hn => by
    have := List.all_eq_true.1 hsz0 n (DataW.weights_mem_each (j := 0) (t := 22) (d := d0) (by rw [Try.params4]; rfl) rfl n hn)
    simpa using this
  have z1 : ∀ n ∈ d1.weights Try.prog 23, n ≤ reachBytes := fun n hn => by
    have := List.all_eq_true.1 hsz0 n (DataW.weights_mem_each (j := 1) (t := 23) (d := d1) (by rw [Try.params4]; rfl) rfl n hn)
    simpa using this
  obtain ⟨A0, m0, c0, L0, rfl, y0, hL0, g0, s0, _⟩ := Sg.open_sigs (hval 0 22 v0 rfl rfl) h0
  obtain ⟨B1, n1, k1, l1, rfl, x1, hr1, w1, _, u1⟩ := open_nodes (hval 1 23 v1 rfl rfl) h1 z1
  clear hA0 hval0
  refine (walk A0 B1 m0 c0 n1 k1 L0 l1 W y0 x1 hL0 s0 g0 hr1 w1 u1).mono fun e W' ⟨he, hg⟩ => ?_
  subst he
  exact ⟨_, rfl, post_law laid (by rw [Try.params4]; decide +kernel) rfl rfl (by kernel_rfl) Try.underlying4 hW' hg⟩

/-- THE STATEMENT -/
theorem proved : Rows.SideBothSaid :=
  OpenClaim.holds_of_wide 4 Try.f4 rfl rfl rfl rfl rfl rfl rfl ⟨rfl, rfl, rfl, rfl, rfl⟩ rfl rfl rfl rfl rfl (by kernel_rfl) Try.func4 (by kernel_rfl)
    (of_decide_eq_true (by kernel_rfl)) (by unfold Func.isWrapper; first | (rw [if_pos (by decide +kernel)]; kernel_rfl) | (rw [if_neg (by decide +kernel)]; exact ⟨rfl, rfl⟩))
    (fun os started H enc _ => lifted os started H enc)
end Go.Proofs.Ytmohedkhbjeapaa.sideBoth
