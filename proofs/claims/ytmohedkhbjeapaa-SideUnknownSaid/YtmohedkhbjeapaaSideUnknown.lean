/-
  SideUnknown holds: without constructors each Con and Proj is told to be unknown, the first one first; all others may be as they may. No conditions.
-/
import Derived.Test.YtmohedkhbjeapaaSideA
import Derived.Test.YtmohedkhbjeapaaRef1Open
import Derived.Test.YtmohedkhbjeapaaExprOpen
import Derived.Test.YtmohedkhbjeapaaRows
import Derived.OpenShut
import Derived.RegionTactic
namespace Go.Proofs.Ytmohedkhbjeapaa.sideUnknown
open Go.ChangeShapes Go.WideShapes Go.ChangeAt Go.RowKit Kit Rw Ex
open Go.ChangeMaps (open_string shut_string)
open Go.Proofs.Ytmohedkhbjeapaa.Sg (Sig Row Sized)

theorem row_none (w : World) (B : Nat) : Row w B none [] := fun h => absurd h (by simp)
theorem right_none : Sg.rightB [] = true := by decide
/-- what is told without constructors: nothing, and then there are none; or the first one, or who stands on no side of its own -/
theorem told_none {l : List Tg} (F : List UInt8) (hF : F.length = l.length) : (checkF [] l F 0 = (0, 0) ∧ ∀ (j : Nat) (h : j < l.length), l[j].1 ≠ 3 ∧ l[j].1 ≠ 6) ∨
    ∃ (k : Nat) (h : k < l.length), (∀ (j : Nat) (hj : j < k), (l[j]'(by omega)).1 ≠ 3 ∧ (l[j]'(by omega)).1 ≠ 6) ∧ ((checkF [] l F 0 = ((k : Int), 3) ∧ (l[k].1 = 3 ∨ l[k].1 = 6)) ∨ (checkF [] l F 0 = ((k : Int), 6) ∧ (l[k].1 = 4 ∨ l[k].1 = 5))) := by
  have hno : ∀ (n : Tg) (t : UInt8), badN [] n t = 0 → n.1 ≠ 3 ∧ n.1 ≠ 6 := fun n t h => by
    refine ⟨fun e => ?_, fun e => ?_⟩
    · rw [bad_none (.inl e)] at h; cases h
    · rw [bad_none (.inr e)] at h; cases h
  rcases checkF_first [] l F 0 hF with ⟨h, hall⟩ | ⟨k, hk, hk', h, hb, hall⟩
  · exact .inl ⟨h, fun j hj => hno _ _ (hall j hj (by omega))⟩
  · refine .inr ⟨k, hk, fun j hj => hno _ _ (hall j hj), ?_⟩
    rw [Nat.zero_add] at h
    by_cases h36 : l[k].1 = 3 ∨ l[k].1 = 6
    · rw [bad_none h36] at h
      exact .inl ⟨h, h36⟩
    · rcases bad_values [] l[k] F[k] with e | ⟨e, _⟩ | ⟨e, e2⟩
      · exact absurd e hb
      · exact absurd e h36
      · rw [e2] at h
        exact .inr ⟨h, by omega⟩
set_option maxRecDepth 100000 in
set_option maxHeartbeats 8000000 in
theorem walk (B : Option Addr) (n d : Nat) (l : List Tg) (s : UInt8) (w : World) (hn : n = l.length) (hr : Rds w w.heap.size B (cellsG l)) (hl : l.length ≤ 140737488355328) (hz : ∀ t ∈ l, t.2.1.size ≤ 140737488355328) :
    Calls Try.prog 9 #[.slice B n d, .int .u8 (s.toNat : Int)] w fun e w' => e = .returned (.bool true) ∧ Q w w' := by
  subst hn
  have HR := Lib.hid hr
  have CF := Lib.hid (fun (W : World) (q : Q w W) => few7_any B l.length d l W rfl (hr.q q) hl hz)
  clear hr hz
  by_cases hf : total7 l ≤ 600
  · rw [decide_eq_true hf] at CF
    have CR := Lib.hid (fun (W : World) (q : Q w W) => right7_any B l.length d l W rfl (HR.out.q q) hf)
    cases hrt : rightB l
    · rw [hrt] at CR
      clear hf hrt
      go_enter Try.func9, Try.ntmps9
      go_wp2_with fail
      refine (shown8_any _).mono ?_
      rintro e w1 ⟨rfl, q1⟩
      have p1 := Lib.hid q1
      clear q1
      go_wp2_with fail
      refine (CF.out _ p1.out).mono ?_
      rintro e w2 ⟨rfl, q2⟩
      have p2 := Lib.hid (p1.out.trans q2)
      clear q2
      go_wp2_with fail
      refine (CR.out _ p2.out).mono ?_
      rintro e w3 ⟨rfl, q3⟩
      have p3 := Lib.hid (p2.out.trans q3)
      clear q3
      go_wp2_with fail
      go_ret
      exact ⟨by first | rfl | simp, p3.out⟩
    · rw [hrt] at CR
      have h600 : l.length ≤ 600 := Nat.le_trans (total7_ge l) hf
      obtain ⟨hmay, ⟨x, hs⟩, hpos⟩ := right_run hrt
      have hFl : (x.sides [] (side0 s)).length = l.length := by
        have := run_sum (i := l.length) (by rw [List.take_length]; exact hs) (Nat.le_refl _)
        rw [sides_len]
        simpa [sumS] using this
      have CV := Lib.hid (fun (W : World) (q : Q w W) => sideVars_any B l.length d l W rfl (HR.out.q q) (by omega) hmay)
      have CW := Lib.hid (fun (W : World) (q : Q w W) => refVars_any B l.length d l W rfl (HR.out.q q) (by omega))
      have C1 : Hid (∀ W : World, Calls Try.prog 22 #[.slice none 0 0] W fun e w' => e = .returned (.bool true) ∧ W = w') := fun W => by
        have := Sg.refRight_any none 0 0 [] W rfl (row_none W _) (by simp) (fun s hs => by cases hs)
        rw [right_none] at this
        exact this
      have CC := Lib.hid (fun (W : World) (q : Q w W) => sideCheck_any none B 0 0 l.length d [] l x s W rfl rfl (row_none W _) (HR.out.q q) (by decide) h600 hmay hs)
      have hT := told_none (x.sides [] (side0 s)) hFl
      generalize x.sides [] (side0 s) = F at *
      clear hf hrt hmay hs hFl
      rcases hT with ⟨hT, hno⟩ | ⟨k0, hk0, hno, ⟨hT, hk⟩ | ⟨hT, hk⟩⟩
      · rw [hT] at CC
        have CC2 : Hid (∀ W : World, Q w W → Calls Try.prog 12 #[.slice none 0 0, .slice B l.length d, .int .u8 (s.toNat : Int)] W fun e w' => e = .returned (.tuple #[.int .i64 0, .int .i64 0]) ∧ Q W w') := CC
        clear CC hT
        have HN := Lib.hid hno
        clear hno
        go_enter Try.func9, Try.ntmps9
        go_wp2_with fail
        refine (shown8_any _).mono ?_
        rintro e w1 ⟨rfl, q1⟩
        have p1 := Lib.hid q1
        clear q1
        go_wp2_with fail
        refine (CF.out _ p1.out).mono ?_
        rintro e w2 ⟨rfl, q2⟩
        have p2 := Lib.hid (p1.out.trans q2)
        clear q2
        go_wp2_with fail
        refine (CR.out _ p2.out).mono ?_
        rintro e w3 ⟨rfl, q3⟩
        have p3 := Lib.hid (p2.out.trans q3)
        clear q3
        go_wp2_with fail
        refine (CC2.out _ p3.out).mono ?_
        rintro e w4 ⟨rfl, q4⟩
        have p4 := Lib.hid (p3.out.trans q4)
        clear q4
        go_wp2_with fail
        go_loopw [8] (fun i wr => ∃ k : Nat, k ≤ l.length ∧ i = .int .i64 k ∧ Hid (Q w wr)) (fun i _ => l.length - (intOf i).toNat)
        case atStart => exact ⟨0, Nat.zero_le _, rfl, p4⟩
        case round =>
          clear p4
          obtain ⟨k, hk, rfl, p4⟩ := hrel
          by_cases hlt : k < l.length
          · obtain ⟨ad, hBe, hb, c0, _, _⟩ := tok_at (HR.out.q p4.out) hlt
            subst hBe
            obtain ⟨n3, n6⟩ := HN.out k hlt
            have e3 : (l[k].1 == 3) = false := beq_eq_false_iff_ne.2 n3
            have e6 : (l[k].1 == 6) = false := beq_eq_false_iff_ne.2 n6
            clear n3 n6
            generalize l[k].1 = kd at *
            go_wp2_with fail
            go_roundw
            case rel => exact ⟨k + 1, by omega, by go_num, p4⟩
            case measure => simp [intOf]; omega
          · obtain rfl : k = l.length := by omega
            go_wp2_with fail
            refine (C1.out _).mono ?_
            rintro e w5 ⟨rfl, rfl⟩
            go_wp2_with fail
            refine (CV.out _ p4.out).mono ?_
            rintro e w6 ⟨A6, c6, rfl, _, q6⟩
            have p6 := Lib.hid (p4.out.trans q6)
            clear q6
            go_wp2_with fail
            refine (CW.out _ p6.out).mono ?_
            rintro e w7 ⟨v7, rfl, hO7, q7⟩
            obtain ⟨A7, c7, rfl, _, _⟩ := own_read hO7
            have p7 := Lib.hid (p6.out.trans q7)
            clear q7 hO7
            go_wp2_with fail
            go_ret
            exact ⟨by first | rfl | simp, p7.out⟩
      · rw [hT] at CC
        have CC2 : Hid (∀ W : World, Q w W → Calls Try.prog 12 #[.slice none 0 0, .slice B l.length d, .int .u8 (s.toNat : Int)] W fun e w' => e = .returned (.tuple #[.int .i64 (k0 : Int), .int .i64 3]) ∧ Q W w') := CC
        clear CC hT
        have HN := Lib.hid hno
        have HK := Lib.hid hk
        clear hno hk
        go_enter Try.func9, Try.ntmps9
        go_wp2_with fail
        refine (shown8_any _).mono ?_
        rintro e w1 ⟨rfl, q1⟩
        have p1 := Lib.hid q1
        clear q1
        go_wp2_with fail
        refine (CF.out _ p1.out).mono ?_
        rintro e w2 ⟨rfl, q2⟩
        have p2 := Lib.hid (p1.out.trans q2)
        clear q2
        go_wp2_with fail
        refine (CR.out _ p2.out).mono ?_
        rintro e w3 ⟨rfl, q3⟩
        have p3 := Lib.hid (p2.out.trans q3)
        clear q3
        go_wp2_with fail
        refine (CC2.out _ p3.out).mono ?_
        rintro e w4 ⟨rfl, q4⟩
        have p4 := Lib.hid (p3.out.trans q4)
        clear q4
        go_wp2_with fail
        go_loopw [8] (fun i wr => ∃ k : Nat, k ≤ k0 ∧ i = .int .i64 k ∧ Hid (Q w wr)) (fun i _ => l.length - (intOf i).toNat)
        case atStart => exact ⟨0, Nat.zero_le _, rfl, p4⟩
        case round =>
          clear p4
          obtain ⟨k, hk, rfl, p4⟩ := hrel
          by_cases hlt : k < k0
          · have hlt2 : k < l.length := by omega
            obtain ⟨ad, hBe, hb, c0, _, _⟩ := tok_at (HR.out.q p4.out) hlt2
            subst hBe
            obtain ⟨n3, n6⟩ := HN.out k hlt
            have e3 : (l[k].1 == 3) = false := beq_eq_false_iff_ne.2 n3
            have e6 : (l[k].1 == 6) = false := beq_eq_false_iff_ne.2 n6
            clear n3 n6
            generalize l[k].1 = kd at *
            go_wp2_with fail
            go_roundw
            case rel => exact ⟨k + 1, by omega, by go_num, p4⟩
            case measure => simp [intOf]; omega
          · obtain rfl : k = k0 := by omega
            obtain ⟨ad, hBe, hb, c0, _, _⟩ := tok_at (HR.out.q p4.out) hk0
            subst hBe
            have hk := HK.out
            generalize l[k].1 = kd at *
            (
              rcases hk with h3 | h6
              · have e3 : (kd == 3) = true := beq_iff_eq.2 h3
                clear h3 HK
                go_wp2_with fail
                refine (C1.out _).mono ?_
                rintro e w5 ⟨rfl, rfl⟩
                go_wp2_with fail
                refine (CV.out _ p4.out).mono ?_
                rintro e w6 ⟨A6, c6, rfl, _, q6⟩
                have p6 := Lib.hid (p4.out.trans q6)
                clear q6
                go_wp2_with fail
                refine (CW.out _ p6.out).mono ?_
                rintro e w7 ⟨v7, rfl, hO7, q7⟩
                obtain ⟨A7, c7, rfl, _, _⟩ := own_read hO7
                have p7 := Lib.hid (p6.out.trans q7)
                clear q7 hO7
                go_wp2_with fail
                go_ret
                exact ⟨by first | rfl | simp, p7.out⟩
              · have e3 : (kd == 3) = false := beq_eq_false_iff_ne.2 (by omega)
                have e6 : (kd == 6) = true := beq_iff_eq.2 h6
                clear h6 HK
                go_wp2_with fail
                refine (C1.out _).mono ?_
                rintro e w5 ⟨rfl, rfl⟩
                go_wp2_with fail
                refine (CV.out _ p4.out).mono ?_
                rintro e w6 ⟨A6, c6, rfl, _, q6⟩
                have p6 := Lib.hid (p4.out.trans q6)
                clear q6
                go_wp2_with fail
                refine (CW.out _ p6.out).mono ?_
                rintro e w7 ⟨v7, rfl, hO7, q7⟩
                obtain ⟨A7, c7, rfl, _, _⟩ := own_read hO7
                have p7 := Lib.hid (p6.out.trans q7)
                clear q7 hO7
                go_wp2_with fail
                go_ret
                exact ⟨by first | rfl | simp, p7.out⟩
            )
      · rw [hT] at CC
        have CC2 : Hid (∀ W : World, Q w W → Calls Try.prog 12 #[.slice none 0 0, .slice B l.length d, .int .u8 (s.toNat : Int)] W fun e w' => e = .returned (.tuple #[.int .i64 (k0 : Int), .int .i64 6]) ∧ Q W w') := CC
        clear CC hT
        have HN := Lib.hid hno
        have HK := Lib.hid hk
        clear hno hk
        go_enter Try.func9, Try.ntmps9
        go_wp2_with fail
        refine (shown8_any _).mono ?_
        rintro e w1 ⟨rfl, q1⟩
        have p1 := Lib.hid q1
        clear q1
        go_wp2_with fail
        refine (CF.out _ p1.out).mono ?_
        rintro e w2 ⟨rfl, q2⟩
        have p2 := Lib.hid (p1.out.trans q2)
        clear q2
        go_wp2_with fail
        refine (CR.out _ p2.out).mono ?_
        rintro e w3 ⟨rfl, q3⟩
        have p3 := Lib.hid (p2.out.trans q3)
        clear q3
        go_wp2_with fail
        refine (CC2.out _ p3.out).mono ?_
        rintro e w4 ⟨rfl, q4⟩
        have p4 := Lib.hid (p3.out.trans q4)
        clear q4
        go_wp2_with fail
        go_loopw [8] (fun i wr => ∃ k : Nat, k ≤ k0 ∧ i = .int .i64 k ∧ Hid (Q w wr)) (fun i _ => l.length - (intOf i).toNat)
        case atStart => exact ⟨0, Nat.zero_le _, rfl, p4⟩
        case round =>
          clear p4
          obtain ⟨k, hk, rfl, p4⟩ := hrel
          by_cases hlt : k < k0
          · have hlt2 : k < l.length := by omega
            obtain ⟨ad, hBe, hb, c0, _, _⟩ := tok_at (HR.out.q p4.out) hlt2
            subst hBe
            obtain ⟨n3, n6⟩ := HN.out k hlt
            have e3 : (l[k].1 == 3) = false := beq_eq_false_iff_ne.2 n3
            have e6 : (l[k].1 == 6) = false := beq_eq_false_iff_ne.2 n6
            clear n3 n6
            generalize l[k].1 = kd at *
            go_wp2_with fail
            go_roundw
            case rel => exact ⟨k + 1, by omega, by go_num, p4⟩
            case measure => simp [intOf]; omega
          · obtain rfl : k = k0 := by omega
            obtain ⟨ad, hBe, hb, c0, _, _⟩ := tok_at (HR.out.q p4.out) hk0
            subst hBe
            have hk := HK.out
            generalize l[k].1 = kd at *
            (
              have e2 : (kd == 2) = false := beq_eq_false_iff_ne.2 (by omega)
              have e2' : (kd != 2) = true := by simp; omega
              clear hk HK
              go_wp2_with fail
              refine (C1.out _).mono ?_
              rintro e w5 ⟨rfl, rfl⟩
              go_wp2_with fail
              refine (CV.out _ p4.out).mono ?_
              rintro e w6 ⟨A6, c6, rfl, _, q6⟩
              have p6 := Lib.hid (p4.out.trans q6)
              clear q6
              go_wp2_with fail
              refine (CW.out _ p6.out).mono ?_
              rintro e w7 ⟨v7, rfl, hO7, q7⟩
              obtain ⟨A7, c7, rfl, _, _⟩ := own_read hO7
              have p7 := Lib.hid (p6.out.trans q7)
              clear q7 hO7
              go_wp2_with fail
              go_ret
              exact ⟨by first | rfl | simp, p7.out⟩
            )
  · rw [decide_eq_false hf] at CF
    clear hf
    go_enter Try.func9, Try.ntmps9
    go_wp2_with fail
    refine (shown8_any _).mono ?_
    rintro e w1 ⟨rfl, q1⟩
    have p1 := Lib.hid q1
    clear q1
    go_wp2_with fail
    refine (CF.out _ p1.out).mono ?_
    rintro e w2 ⟨rfl, q2⟩
    have p2 := Lib.hid (p1.out.trans q2)
    clear q2
    go_wp2_with fail
    go_ret
    exact ⟨by first | rfl | simp, p2.out⟩

set_option maxRecDepth 100000 in
theorem lifted (os : Os) (started : os.Started) (H : Type) (enc : TypeId × Value → H) :
    ReturnsInHanded {} Try.checked os 9 .any (Rows.sideUnknownSpec.pre6 enc Try.prog Try.f9 Rows.sideUnknownRow.domain false) (Rows.sideUnknownSpec.post enc Try.prog Try.f9 false true false false) := by
  refine returnsInHanded_of_change_sized (C := Try.checked) own started (by kernel_rfl) Try.func9
    (ChangeSpec.witness6 (enc := enc) (C := Try.checked) false ⟨#[], #[.slice none 0 0, .int .u8 0], []⟩ 8 (by kernel_rfl) (by kernel_rfl) (by kernel_rfl) (by kernel_rfl)) ?_
  intro W base args ds gs before hval0 hW hcnd hsz0 _
  have hval : ∀ (j : Nat) t v, Try.f9.params[j]? = some t → args[j]? = some v → Value.okWide Try.prog W .any base t v := hval0
  have hW' := hW
  obtain ⟨p, q, hA0, hV, rfl, hfz, hnd⟩ := hW
  have hA : DataW.TrodAll enc Try.prog W 0 (fun _ => true) true Try.f9.params.toList args.toList ds p := hA0
  rw [Try.params9] at hA hval
  obtain ⟨v0, vs0, d0, ds0, p0, q0, hargs, rfl, rfl, h0, r0⟩ := trodAll_cons hA
  obtain ⟨v1, vs1, d1, ds1, p1, q1, rfl, rfl, rfl, h1, r1⟩ := trodAll_cons r0
  obtain ⟨rfl, rfl, rfl⟩ := trodAll_nil r1
  obtain rfl : args = #[v0, v1] := by cases args; simp_all
  obtain ⟨rfl, rfl⟩ := trodVars_none hV
  have z0 : ∀ n ∈ d0.weights Try.prog 23, n ≤ reachBytes := fun n hn => by
    have := List.all_eq_true.1 hsz0 n (DataW.weights_mem_each (j := 0) (t := 23) (d := d0) (by rw [Try.params9]; rfl) rfl n hn)
    simpa using this
  have z1 : ∀ n ∈ d1.weights Try.prog 5, n ≤ reachBytes := fun n hn => by
    have := List.all_eq_true.1 hsz0 n (DataW.weights_mem_each (j := 1) (t := 5) (d := d1) (by rw [Try.params9]; rfl) rfl n hn)
    simpa using this
  obtain ⟨B0, n0, k0, l0, rfl, x0, hr0, w0, _, u0⟩ := open_nodes (hval 0 23 v0 rfl rfl) h0 z0
  obtain ⟨b, rfl, rfl, rfl, hbw⟩ := open_int Try.underlying5 (hval 1 5 v1 rfl rfl) h1
  have hb : 0 ≤ b ∧ b ≤ 255 := by
    have h1 : IntKind.u8.min = 0 := rfl
    have h2 : IntKind.u8.max = 255 := rfl
    simp [Lit.wf] at hbw
    omega
  obtain ⟨sb, rfl⟩ : ∃ sb : UInt8, b = (sb.toNat : Int) := ⟨UInt8.ofNat b.toNat, by rw [UInt8.toNat_ofNat']; omega⟩
  clear hA0 hval0
  refine (walk B0 n0 k0 l0 sb W x0 hr0 w0 u0).mono fun e W' ⟨he, hg⟩ => ?_
  subst he
  exact ⟨_, rfl, post_law laid (by rw [Try.params9]; decide +kernel) rfl rfl (by kernel_rfl) Try.underlying4 hW' hg⟩

/-- THE STATEMENT -/
theorem proved : Rows.SideUnknownSaid :=
  OpenClaim.holds_of_wide 9 Try.f9 rfl rfl rfl rfl rfl rfl rfl ⟨rfl, rfl, rfl, rfl, rfl⟩ rfl rfl rfl rfl rfl (by kernel_rfl) Try.func9 (by kernel_rfl)
    (of_decide_eq_true (by kernel_rfl)) (by unfold Func.isWrapper; first | (rw [if_pos (by decide +kernel)]; kernel_rfl) | (rw [if_neg (by decide +kernel)]; exact ⟨rfl, rfl⟩))
    (fun os started H enc _ => lifted os started H enc)
end Go.Proofs.Ytmohedkhbjeapaa.sideUnknown
