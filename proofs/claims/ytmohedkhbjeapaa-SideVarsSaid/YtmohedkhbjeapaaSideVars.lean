/-
  SideVars holds: variables are those that stand in the nodes, each once. No conditions.
-/
import Derived.Test.YtmohedkhbjeapaaSideA
import Derived.Test.YtmohedkhbjeapaaRef1Open
import Derived.Test.YtmohedkhbjeapaaExprOpen
import Derived.Test.YtmohedkhbjeapaaRows
import Derived.OpenShut
import Derived.RegionTactic
namespace Go.Proofs.Ytmohedkhbjeapaa.sideVars
open Go.ChangeShapes Go.WideShapes Go.ChangeAt Go.RowKit Kit Rw Ex
open Go.ChangeMaps (open_string shut_string)
open Go.Proofs.Ytmohedkhbjeapaa.Sg (Sig Row Sized)

def inV (nm : ByteArray) : List Tg → Bool
  | [] => false
  | n :: r => ((n.1 == 2) && Sg.eqS n.2.1 nm) || inV nm r
theorem inV_at (nm : ByteArray) (l : List Tg) (k : Nat) (h : k < l.length) : inV nm (l.drop k) = (((l[k].1 == 2) && Sg.eqS l[k].2.1 nm) || inV nm (l.drop (k + 1))) := by
  rw [List.drop_eq_getElem_cons h]; rfl
def cntS (nm : ByteArray) : List ByteArray → Nat
  | [] => 0
  | a :: r => (if Sg.eqS a nm = true then 1 else 0) + cntS nm r
theorem cntS_at (nm : ByteArray) (l : List ByteArray) (k : Nat) (h : k < l.length) : cntS nm (l.drop k) = (if Sg.eqS l[k] nm = true then 1 else 0) + cntS nm (l.drop (k + 1)) := by
  rw [List.drop_eq_getElem_cons h]; rfl
theorem cntS_app (nm : ByteArray) (a b : List ByteArray) : cntS nm (a ++ b) = cntS nm a + cntS nm b := by
  induction a with
  | nil => simp [cntS]
  | cons x a ih => simp [cntS, ih]; omega
theorem cntS_mem (nm : ByteArray) (a : List ByteArray) : 0 < cntS nm a ↔ nm ∈ a := by
  induction a with
  | nil => simp [cntS]
  | cons x a ih =>
    unfold cntS
    by_cases h : x = nm
    · rw [if_pos ((Sg.eqS_iff _ _).2 h)]
      simp [h]
      omega
    · rw [if_neg fun e => h ((Sg.eqS_iff _ _).1 e), Nat.zero_add, ih]
      simp only [List.mem_cons]
      exact ⟨.inr, fun e => e.resolve_left fun x => h x.symm⟩
theorem cnt_vars (nm : ByteArray) : ∀ (l : List Tg) (o : List ByteArray), cntS nm o ≤ 1 → cntS nm (varsF l o) = Nat.max (cntS nm o) (if inV nm l = true then 1 else 0)
  | [], o, h => by
    show cntS nm o = Nat.max (cntS nm o) 0
    exact (Nat.max_eq_left (Nat.zero_le _)).symm
  | n :: r, o, h => by
    unfold varsF inV
    by_cases hc : n.1 = 2 ∧ atS n.2.1 o 0 < 0
    · rw [if_pos hc]
      have hno := (atS_neg _ _ _).1 hc.2
      have e2 : (n.1 == 2) = true := beq_iff_eq.2 hc.1
      rw [e2, Bool.true_and]
      by_cases he : n.2.1 = nm
      · have h0 : cntS nm o = 0 := by
          rcases Nat.eq_zero_or_pos (cntS nm o) with h0 | h0
          · exact h0
          · exact absurd ((cntS_mem nm o).1 h0) (he ▸ hno)
        have h1 : cntS nm (o ++ [n.2.1]) = 1 := by
          rw [cntS_app, h0]
          simp only [cntS]
          rw [if_pos ((Sg.eqS_iff _ _).2 he)]
        rw [cnt_vars nm r _ (by omega), h1, h0, (Sg.eqS_iff _ _).2 he, Bool.true_or, if_pos rfl]
        split <;> rfl
      · have hf : Sg.eqS n.2.1 nm = false := by
          cases hx : Sg.eqS n.2.1 nm
          · rfl
          · exact absurd ((Sg.eqS_iff _ _).1 hx) he
        have h1 : cntS nm (o ++ [n.2.1]) = cntS nm o := by
          rw [cntS_app]
          simp only [cntS]
          rw [hf]
          simp
        rw [cnt_vars nm r _ (by omega), h1, hf, Bool.false_or]
    · rw [if_neg hc, cnt_vars nm r o h]
      by_cases he : (n.1 == 2) = true ∧ Sg.eqS n.2.1 nm = true
      · have hn : n.2.1 = nm := (Sg.eqS_iff _ _).1 he.2
        have hm : nm ∈ o := by
          refine Classical.byContradiction fun hx => hc ⟨beq_iff_eq.1 he.1, (atS_neg _ _ _).2 ?_⟩
          rw [hn]; exact hx
        have := (cntS_mem nm o).2 hm
        have h1 : cntS nm o = 1 := by omega
        rw [h1, he.1, he.2]
        simp only [Bool.true_and, Bool.true_or, if_true]
        split <;> rfl
      · have hf : ((n.1 == 2) && Sg.eqS n.2.1 nm) = false := by
          cases hx : ((n.1 == 2) && Sg.eqS n.2.1 nm)
          · rfl
          · rw [Bool.and_eq_true] at hx; exact absurd hx he
        rw [hf, Bool.false_or]
set_option maxRecDepth 100000 in
set_option maxHeartbeats 8000000 in
theorem walk (B : Option Addr) (n d : Nat) (l : List Tg) (nm : ByteArray) (w : World) (hn : n = l.length) (hr : Rds w w.heap.size B (cellsG l)) (hl : l.length ≤ 140737488355328) (hz : ∀ t ∈ l, t.2.1.size ≤ 140737488355328) :
    Calls Try.prog 6 #[.slice B n d, .string nm] w fun e w' => e = .returned (.bool true) ∧ Q w w' := by
  subst hn
  have HR := Lib.hid hr
  have CF := Lib.hid (fun (W : World) (q : Q w W) => few7_any B l.length d l W rfl (hr.q q) hl hz)
  clear hr hz
  by_cases hf : total7 l ≤ 600
  · rw [decide_eq_true hf] at CF
    have CR := Lib.hid (fun (W : World) (q : Q w W) => right7_any B l.length d l W rfl (HR.out.q q) hf)
    cases hrt : rightB l
    · rw [hrt] at CR
      clear hf hrt
      go_enter Try.func6, Try.ntmps6
      go_wp2_with fail
      refine (shown8_any _).mono ?_
      rintro e w1 ⟨rfl, q1⟩
      have p1 := Lib.hid q1
      clear q1
      go_wp2_with fail
      refine (CF.out _ p1.out).mono ?_
      rintro e w2 ⟨rfl, q2⟩
      have p2 := Lib.hid (p1.out.trans q2)
      clear q2
      go_wp2_with fail
      refine (CR.out _ p2.out).mono ?_
      rintro e w3 ⟨rfl, q3⟩
      have p3 := Lib.hid (p2.out.trans q3)
      clear q3
      go_wp2_with fail
      go_ret
      exact ⟨by first | rfl | simp, p3.out⟩
    · rw [hrt] at CR
      have h600 : l.length ≤ 600 := Nat.le_trans (total7_ge l) hf
      have hmay := (right_run hrt).1
      clear hf hrt
      by_cases h50 : 50 < nm.size
      · have d5 : decide (50 < (nm.size : Int)) = true := decide_eq_true (by omega)
        have d5' : decide (50 < nm.size) = true := decide_eq_true h50
        clear h50
        go_enter Try.func6, Try.ntmps6
        go_wp2_with fail
        refine (shown8_any _).mono ?_
        rintro e w1 ⟨rfl, q1⟩
        have p1 := Lib.hid q1
        clear q1
        go_wp2_with fail
        refine (CF.out _ p1.out).mono ?_
        rintro e w2 ⟨rfl, q2⟩
        have p2 := Lib.hid (p1.out.trans q2)
        clear q2
        go_wp2_with fail
        refine (CR.out _ p2.out).mono ?_
        rintro e w3 ⟨rfl, q3⟩
        have p3 := Lib.hid (p2.out.trans q3)
        clear q3
        go_wp2_with fail
        go_ret
        exact ⟨by first | rfl | simp, p3.out⟩
      · have d5 : decide (50 < (nm.size : Int)) = false := decide_eq_false (by omega)
        have d5' : decide (50 < nm.size) = false := decide_eq_false h50
        have CV := Lib.hid (fun (W : World) (q : Q w W) => sideVars_any B l.length d l W rfl (HR.out.q q) (by omega) hmay)
        have hcv := cnt_vars nm l [] (Nat.zero_le _)
        have hvl := varsF_len l []
        have Hcv : Hid (cntS nm (varsF l []) = if inV nm l = true then 1 else 0) := by
          unfold Hid; rw [hcv]; split <;> rfl
        have hvl2 : (varsF l []).length ≤ l.length := by simpa using hvl
        clear h50 hcv hvl hmay
        generalize varsF l [] = V at *
        go_enter Try.func6, Try.ntmps6
        go_wp2_with fail
        refine (shown8_any _).mono ?_
        rintro e w1 ⟨rfl, q1⟩
        have p1 := Lib.hid q1
        clear q1
        go_wp2_with fail
        refine (CF.out _ p1.out).mono ?_
        rintro e w2 ⟨rfl, q2⟩
        have p2 := Lib.hid (p1.out.trans q2)
        clear q2
        go_wp2_with fail
        refine (CR.out _ p2.out).mono ?_
        rintro e w3 ⟨rfl, q3⟩
        have p3 := Lib.hid (p2.out.trans q3)
        clear q3
        go_wp2_with fail
        refine (CV.out _ p3.out).mono ?_
        rintro e w4 ⟨A4, c4, rfl, hr4, q4⟩
        have p4 := Lib.hid (p3.out.trans q4)
        have HR4 := Lib.hid hr4
        clear q4 hr4
        go_wp2_with fail
        go_loopw [7, 8] (fun b i wr => ∃ (k : Nat) (bb : Bool), k ≤ l.length ∧ i = .int .i64 k ∧ b = .bool bb ∧ Hid (inV nm l = (bb || inV nm (l.drop k))) ∧ w4 = wr) (fun _ i _ => l.length - (intOf i).toNat)
        case atStart => exact ⟨0, false, Nat.zero_le _, rfl, rfl, Lib.hid (by simp), rfl⟩
        case round =>
          obtain ⟨k, bb, hk, rfl, rfl, HI, rfl⟩ := hrel
          by_cases hlt : k < l.length
          · obtain ⟨ad, rfl, hb, c0, c1, _⟩ := tok_at (HR.out.q p4.out) hlt
            have hst := HI.out
            rw [inV_at nm l k hlt, ← Bool.or_assoc] at hst
            clear HI
            generalize l[k].1 = kd at *
            generalize l[k].2.1 = s at *
            obtain ⟨ee, hee⟩ : ∃ ee, ee = Sg.eqS s nm := ⟨_, rfl⟩
            have he' : (s.toList == nm.toList) = ee := hee.symm
            rw [← hee] at hst
            clear hee
            have HS := Lib.hid hst
            clear hst
            cases bb
            · cases hkd : (kd == 2)
              · rw [hkd] at HS
                go_wp2_with fail
                go_roundw
                case rel => exact ⟨k + 1, false, by omega, by go_num, rfl, by simpa using HS, by trivial⟩
                case measure => simp [intOf]; omega
              · rw [hkd] at HS
                go_wp2_with fail
                go_roundw
                case rel => exact ⟨k + 1, ee, by omega, by go_num, by first | rfl | simp, by simpa using HS, by trivial⟩
                case measure => simp [intOf]; omega
            · go_wp2_with fail
              go_roundw
              case rel => exact ⟨k + 1, true, by omega, by go_num, rfl, by simpa using HS, by trivial⟩
              case measure => simp [intOf]; omega
          · have HB : Hid (inV nm l = bb) := by
              have := HI.out
              rw [List.drop_of_length_le (by omega)] at this
              unfold Hid
              rw [this]
              simp [inV]
            clear HI
            go_wp2_with fail
            go_loopw [9, 10] (fun h i wr => ∃ (k cc : Nat), k ≤ V.length ∧ cc ≤ k ∧ i = .int .i64 k ∧ h = .int .i64 cc ∧ Hid (cntS nm V = cc + cntS nm (V.drop k)) ∧ w4 = wr) (fun _ i _ => V.length - (intOf i).toNat)
            case atStart => exact ⟨0, 0, Nat.zero_le _, Nat.le_refl _, rfl, rfl, Lib.hid (by simp), rfl⟩
            case round =>
              obtain ⟨j, cc, hj, hcj, rfl, rfl, HC, rfl⟩ := hrel
              by_cases hltj : j < V.length
              · obtain ⟨ad, rfl, hb, c0⟩ := str_at HR4.out hltj
                have hst := HC.out
                rw [cntS_at nm V j hltj, ← Nat.add_assoc] at hst
                clear HC
                generalize V[j] = s at *
                cases he : Sg.eqS s nm
                · rw [he] at hst
                  have HS : Hid (cntS nm V = cc + cntS nm (V.drop (j + 1))) := Lib.hid (by simpa using hst)
                  have he' : (s.toList == nm.toList) = false := he
                  clear he hst
                  go_wp2_with fail
                  go_roundw
                  case rel => exact ⟨j + 1, cc, by omega, by omega, by go_num, rfl, HS, by trivial⟩
                  case measure => simp [intOf]; omega
                · rw [he] at hst
                  have HS : Hid (cntS nm V = (cc + 1) + cntS nm (V.drop (j + 1))) := Lib.hid (by simpa using hst)
                  have he' : (s.toList == nm.toList) = true := he
                  clear he hst
                  go_wp2_with fail
                  go_roundw
                  case rel => exact ⟨j + 1, cc + 1, by omega, by omega, by go_num, by go_num, HS, by trivial⟩
                  case measure => simp [intOf]; omega
              · have hcc : cc = if bb = true then 1 else 0 := by
                  have h1 := HC.out
                  rw [List.drop_of_length_le (by omega)] at h1
                  have h2 := Hcv.out
                  rw [HB.out] at h2
                  rw [h1] at h2
                  simpa [cntS] using h2
                have dl : decide ((V.length : Int) ≤ (l.length : Int)) = true := decide_eq_true (by omega)
                clear HC HB Hcv
                cases bb
                · obtain rfl : cc = 0 := by simpa using hcc
                  clear hcc
                  go_wp2_with fail
                  go_ret
                  exact ⟨by first | rfl | simp, p4.out⟩
                · obtain rfl : cc = 1 := by simpa using hcc
                  clear hcc
                  go_wp2_with fail
                  go_ret
                  exact ⟨by first | rfl | simp, p4.out⟩
  · rw [decide_eq_false hf] at CF
    clear hf
    go_enter Try.func6, Try.ntmps6
    go_wp2_with fail
    refine (shown8_any _).mono ?_
    rintro e w1 ⟨rfl, q1⟩
    have p1 := Lib.hid q1
    clear q1
    go_wp2_with fail
    refine (CF.out _ p1.out).mono ?_
    rintro e w2 ⟨rfl, q2⟩
    have p2 := Lib.hid (p1.out.trans q2)
    clear q2
    go_wp2_with fail
    go_ret
    exact ⟨by first | rfl | simp, p2.out⟩

set_option maxRecDepth 100000 in
theorem lifted (os : Os) (started : os.Started) (H : Type) (enc : TypeId × Value → H) :
    ReturnsInHanded {} Try.checked os 6 .any (Rows.sideVarsSpec.pre6 enc Try.prog Try.f6 Rows.sideVarsRow.domain false) (Rows.sideVarsSpec.post enc Try.prog Try.f6 false true false false) := by
  refine returnsInHanded_of_change_sized (C := Try.checked) own started (by kernel_rfl) Try.func6
    (ChangeSpec.witness6 (enc := enc) (C := Try.checked) false ⟨#[], #[.slice none 0 0, .string ⟨#[]⟩], []⟩ 8 (by kernel_rfl) (by kernel_rfl) (by kernel_rfl) (by kernel_rfl)) ?_
  intro W base args ds gs before hval0 hW hcnd hsz0 _
  have hval : ∀ (j : Nat) t v, Try.f6.params[j]? = some t → args[j]? = some v → Value.okWide Try.prog W .any base t v := hval0
  have hW' := hW
  obtain ⟨p, q, hA0, hV, rfl, hfz, hnd⟩ := hW
  have hA : DataW.TrodAll enc Try.prog W 0 (fun _ => true) true Try.f6.params.toList args.toList ds p := hA0
  rw [Try.params6] at hA hval
  obtain ⟨v0, vs0, d0, ds0, p0, q0, hargs, rfl, rfl, h0, r0⟩ := trodAll_cons hA
  obtain ⟨v1, vs1, d1, ds1, p1, q1, rfl, rfl, rfl, h1, r1⟩ := trodAll_cons r0
  obtain ⟨rfl, rfl, rfl⟩ := trodAll_nil r1
  obtain rfl : args = #[v0, v1] := by cases args; simp_all
  obtain ⟨rfl, rfl⟩ := trodVars_none hV
  have z0 : ∀ n ∈ d0.weights Try.prog 23, n ≤ reachBytes := fun n hn => by
    have := List.all_eq_true.1 hsz0 n (DataW.weights_mem_each (j := 0) (t := 23) (d := d0) (by rw [Try.params6]; rfl) rfl n hn)
    simpa using this
  have z1 : ∀ n ∈ d1.weights Try.prog 9, n ≤ reachBytes := fun n hn => by
    have := List.all_eq_true.1 hsz0 n (DataW.weights_mem_each (j := 1) (t := 9) (d := d1) (by rw [Try.params6]; rfl) rfl n hn)
    simpa using this
  obtain ⟨B0, n0, k0, l0, rfl, x0, hr0, w0, _, u0⟩ := open_nodes (hval 0 23 v0 rfl rfl) h0 z0
  obtain ⟨nm, rfl, rfl, rfl, _⟩ := open_string Try.underlying9 (hval 1 9 v1 rfl rfl) h1
  clear hA0 hval0
  refine (walk B0 n0 k0 l0 nm W x0 hr0 w0 u0).mono fun e W' ⟨he, hg⟩ => ?_
  subst he
  exact ⟨_, rfl, post_law laid (by rw [Try.params6]; decide +kernel) rfl rfl (by kernel_rfl) Try.underlying4 hW' hg⟩

/-- THE STATEMENT -/
theorem proved : Rows.SideVarsSaid :=
  OpenClaim.holds_of_wide 6 Try.f6 rfl rfl rfl rfl rfl rfl rfl ⟨rfl, rfl, rfl, rfl, rfl⟩ rfl rfl rfl rfl rfl (by kernel_rfl) Try.func6 (by kernel_rfl)
    (of_decide_eq_true (by kernel_rfl)) (by unfold Func.isWrapper; first | (rw [if_pos (by decide +kernel)]; kernel_rfl) | (rw [if_neg (by decide +kernel)]; exact ⟨rfl, rfl⟩))
    (fun os started H enc _ => lifted os started H enc)
end Go.Proofs.Ytmohedkhbjeapaa.sideVars
