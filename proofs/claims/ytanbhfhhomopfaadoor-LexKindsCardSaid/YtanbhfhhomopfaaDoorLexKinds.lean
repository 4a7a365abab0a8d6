/-
  LexKinds holds: each token is of a kind that its first byte tells; names and numbers are as long as they can be. No conditions.
-/
import Derived.Test.YtanbhfhhomopfaaDoorLexQ
import Derived.Test.YtanbhfhhomopfaaDoorLaid
import Derived.OpenShut
import Derived.Deep.DeepCutAuto
namespace Go.Proofs.YtanbhfhhomopfaaDoor.lexKinds
open Go.ChangeShapes Go.WideShapes Go.ChangeAt Go.RowKit Kit Rw Lx
open Go.ChangeMaps (open_string shut_string)

set_option maxRecDepth 100000 in
set_option maxHeartbeats 40000000 in
theorem walk (s : ByteArray) (w : World) : Calls Tryd.prog 8 #[.string s] w fun e w' => e = .returned (.bool true) ∧ Q w w' := by
  by_cases h5 : 1000 < s.size
  · have d5 : decide (1000 < (s.size : Int)) = true := decide_eq_true (by omega)
    go_enter Tryd.func8, Tryd.ntmps8
    go_wp2_with fail
    refine (shown_any _).mono ?_
    rintro e w1 ⟨rfl, q1⟩
    go_wp2_with fail
    go_ret
    exact ⟨rfl, q1⟩
  · have d5 : decide (1000 < (s.size : Int)) = false := decide_eq_false (by omega)
    obtain ⟨l, o, hlx⟩ : ∃ l o, lx s.data.toList 0 = (l, o) := ⟨_, _, rfl⟩
    have CT := Lib.hid (fun W : World => toks_any s l o W (by omega) hlx)
    cases o with
    | some q =>
      have CT : Hid (∀ W : World, Calls Tryd.prog 11 #[.string s] W fun e W' => e = .returned (.tuple #[.slice none 0 0, .int .i64 (q : Int), .int .i64 2]) ∧ Q W W') := CT.out
      clear hlx h5
      go_enter Tryd.func8, Tryd.ntmps8
      go_wp2_with fail
      refine (shown_any _).mono ?_
      rintro e w1 ⟨rfl, q1⟩
      go_wp2_with fail
      refine (CT.out _).mono ?_
      rintro e w2 ⟨rfl, q2⟩
      have p2 := Lib.hid (q1.trans q2)
      clear q1 q2
      go_wp2_with fail
      go_loopw [7] (fun i wr => i = .int .i64 0 ∧ Hid (Q w wr)) (fun _ _ => 0)
      case atStart => exact ⟨rfl, p2⟩
      case round =>
        obtain ⟨rfl, HQ⟩ := hrel
        go_wp2_with fail
        go_ret
        exact ⟨rfl, HQ.out⟩
    | none =>
      have CT : Hid (∀ W : World, Calls Tryd.prog 11 #[.string s] W fun e W' => ∃ A c, e = .returned (.tuple #[.slice A l.length c, .int .i64 0, .int .i64 0]) ∧ l.length ≤ c ∧ Rds W' W'.heap.size A (cellsT l) ∧ Q W W') := CT.out
      have HX := Lib.hid hlx
      have hlen : l.length ≤ s.size := by
        have h9 := lx_few s.data.toList.length s.data.toList 0 (Nat.le_refl _)
        rw [hlx] at h9
        have h9 : l.length ≤ s.data.toList.length := h9
        have e : s.data.toList.length = s.size := by simp
        omega
      clear hlx
      go_enter Tryd.func8, Tryd.ntmps8
      go_wp2_with fail
      refine (shown_any _).mono ?_
      rintro e w1 ⟨rfl, q1⟩
      go_wp2_with fail
      refine (CT.out _).mono ?_
      rintro e w2 ⟨A, c, rfl, _, hR, q2⟩
      have HR := Lib.hid hR
      have p2 := Lib.hid (q1.trans q2)
      clear hR q1
      go_wp2_with fail
      go_loopw [7] (fun i wr => ∃ k : Nat, k ≤ l.length ∧ i = .int .i64 k ∧ Hid (Q w2 wr)) (fun i _ => l.length - (intOf i).toNat)
      case atStart => exact ⟨0, Nat.zero_le _, rfl, Lib.hid (Q.refl _)⟩
      case round =>
        obtain ⟨k, hk, rfl, HQ⟩ := hrel
        by_cases hlt : k < l.length
        · obtain ⟨ad, rfl, hb, c0, c1, c2⟩ := tok_at (HR.out.q HQ.out) (show k < (l.map tg).length by rw [List.length_map]; exact hlt)
          rw [List.getElem_map] at c0 c1 c2
          obtain ⟨C, o, H⟩ := one_tok s l none HX.out l[k] (List.getElem_mem hlt)
          have g1 := H.size
          have g2 := H.first
          have g3 := H.fits
          have g4 := H.next
          have g5 := H.last
          have g6 := H.kinds
          have he : ¬ (bs l[k].text).toList = [] := fun e => by
            rw [ByteArray.toList_eq] at e
            have : (bs l[k].text).data.toList.length = (bs l[k].text).size := by simp
            rw [e] at this
            simp at this
            omega
          have he2 : (bs l[k].text).toList.isEmpty = false := by
            cases h : (bs l[k].text).toList with
            | nil => exact absurd h he
            | cons a b => rfl
          replace c0 : wr.cell? (ad.add (k * 3)) = some (.int .i64 (l[k].kind : Int)) := c0
          replace c1 : wr.cell? ⟨(ad.add (k * 3)).block, (ad.add (k * 3)).off + 1, none⟩ = some (.string (bs l[k].text)) := c1
          replace c2 : wr.cell? ⟨(ad.add (k * 3)).block, (ad.add (k * 3)).off + 2, none⟩ = some (.int .i64 (l[k].pos : Int)) := c2
          clear H
          generalize bs l[k].text = T at *
          generalize l[k].kind = K at *
          generalize l[k].pos = P at *
          have G2 := g2
          have dP : decide ((P : Int) < 0) = false := decide_eq_false (by omega)
          have dS : decide ((s.size : Int) < (P : Int) + (T.size : Int)) = false := decide_eq_false (by omega)
          have HG4 := Lib.hid g4
          clear g4
          rcases g6 with ⟨rfl, hc, hn⟩ | ⟨rfl, hc, hn⟩ | ⟨rfl, hc, hc2, h2⟩
          · cases o with
            | none =>
              have dL : decide ((P : Int) + (T.size : Int) < (s.size : Int)) = false := decide_eq_false (by have := g5 rfl; omega)
              clear hn g5
              have hsp : (97 ≤ C ∧ C ≤ 122) ∨ (65 ≤ C ∧ C ≤ 90) := by omega
              rcases hsp with hv | hv
              · skip
                have x_C_ge48 : decide ((48 : Int) ≤ (C : Int)) = true := decide_eq_true (by omega)
                have x_C_le57 : decide ((C : Int) ≤ 57) = false := decide_eq_false (by omega)
                have x_C_ge97 : decide ((97 : Int) ≤ (C : Int)) = true := decide_eq_true (by omega)
                have x_C_le122 : decide ((C : Int) ≤ 122) = true := decide_eq_true (by omega)
                have x_C_ge65 : decide ((65 : Int) ≤ (C : Int)) = true := decide_eq_true (by omega)
                have x_C_le90 : decide ((C : Int) ≤ 90) = false := decide_eq_false (by omega)
                clear hv hc
                go_wp2_with fail
                go_roundw
                case rel => exact ⟨k + 1, by omega, by go_num, Lib.hid (HQ.out.alloc _)⟩
                case measure => simp [intOf]; omega
              · skip
                have x_C_ge48 : decide ((48 : Int) ≤ (C : Int)) = true := decide_eq_true (by omega)
                have x_C_le57 : decide ((C : Int) ≤ 57) = false := decide_eq_false (by omega)
                have x_C_ge97 : decide ((97 : Int) ≤ (C : Int)) = false := decide_eq_false (by omega)
                have x_C_le122 : decide ((C : Int) ≤ 122) = true := decide_eq_true (by omega)
                have x_C_ge65 : decide ((65 : Int) ≤ (C : Int)) = true := decide_eq_true (by omega)
                have x_C_le90 : decide ((C : Int) ≤ 90) = true := decide_eq_true (by omega)
                clear hv hc
                go_wp2_with fail
                go_roundw
                case rel => exact ⟨k + 1, by omega, by go_num, Lib.hid (HQ.out.alloc _)⟩
                case measure => simp [intOf]; omega
            | some D =>
              obtain ⟨hD1, hD2⟩ := HG4.out D rfl
              have dL : decide ((P : Int) + (T.size : Int) < (s.size : Int)) = true := decide_eq_true (by omega)
              have hn := hn D rfl
              clear g5 HG4
              have hsp : (97 ≤ C ∧ C ≤ 122) ∨ (65 ≤ C ∧ C ≤ 90) := by omega
              rcases hsp with hv | hv
              · skip
                have x_C_ge48 : decide ((48 : Int) ≤ (C : Int)) = true := decide_eq_true (by omega)
                have x_C_le57 : decide ((C : Int) ≤ 57) = false := decide_eq_false (by omega)
                have x_C_ge97 : decide ((97 : Int) ≤ (C : Int)) = true := decide_eq_true (by omega)
                have x_C_le122 : decide ((C : Int) ≤ 122) = true := decide_eq_true (by omega)
                have x_C_ge65 : decide ((65 : Int) ≤ (C : Int)) = true := decide_eq_true (by omega)
                have x_C_le90 : decide ((C : Int) ≤ 90) = false := decide_eq_false (by omega)
                clear hv hc
                have hsp : (0 ≤ D ∧ D ≤ 47) ∨ (58 ≤ D ∧ D ≤ 64) ∨ (91 ≤ D ∧ D ≤ 94) ∨ (96 ≤ D ∧ D ≤ 96) ∨ (123 ≤ D) := by omega
                rcases hsp with hv | hv | hv | hv | hv
                · skip
                  have x_D_ge48 : decide ((48 : Int) ≤ (D : Int)) = false := decide_eq_false (by omega)
                  have x_D_le57 : decide ((D : Int) ≤ 57) = true := decide_eq_true (by omega)
                  have x_D_ge97 : decide ((97 : Int) ≤ (D : Int)) = false := decide_eq_false (by omega)
                  have x_D_le122 : decide ((D : Int) ≤ 122) = true := decide_eq_true (by omega)
                  have x_D_ge65 : decide ((65 : Int) ≤ (D : Int)) = false := decide_eq_false (by omega)
                  have x_D_le90 : decide ((D : Int) ≤ 90) = true := decide_eq_true (by omega)
                  have x95 : ((D : Int) == 95) = false := beq_eq_false_iff_ne.2 (by omega)
                  clear hv hn
                  go_wp2_with fail
                  go_roundw
                  case rel => exact ⟨k + 1, by omega, by go_num, Lib.hid (HQ.out.alloc _)⟩
                  case measure => simp [intOf]; omega
                · skip
                  have x_D_ge48 : decide ((48 : Int) ≤ (D : Int)) = true := decide_eq_true (by omega)
                  have x_D_le57 : decide ((D : Int) ≤ 57) = false := decide_eq_false (by omega)
                  have x_D_ge97 : decide ((97 : Int) ≤ (D : Int)) = false := decide_eq_false (by omega)
                  have x_D_le122 : decide ((D : Int) ≤ 122) = true := decide_eq_true (by omega)
                  have x_D_ge65 : decide ((65 : Int) ≤ (D : Int)) = false := decide_eq_false (by omega)
                  have x_D_le90 : decide ((D : Int) ≤ 90) = true := decide_eq_true (by omega)
                  have x95 : ((D : Int) == 95) = false := beq_eq_false_iff_ne.2 (by omega)
                  clear hv hn
                  go_wp2_with fail
                  go_roundw
                  case rel => exact ⟨k + 1, by omega, by go_num, Lib.hid (HQ.out.alloc _)⟩
                  case measure => simp [intOf]; omega
                · skip
                  have x_D_ge48 : decide ((48 : Int) ≤ (D : Int)) = true := decide_eq_true (by omega)
                  have x_D_le57 : decide ((D : Int) ≤ 57) = false := decide_eq_false (by omega)
                  have x_D_ge97 : decide ((97 : Int) ≤ (D : Int)) = false := decide_eq_false (by omega)
                  have x_D_le122 : decide ((D : Int) ≤ 122) = true := decide_eq_true (by omega)
                  have x_D_ge65 : decide ((65 : Int) ≤ (D : Int)) = true := decide_eq_true (by omega)
                  have x_D_le90 : decide ((D : Int) ≤ 90) = false := decide_eq_false (by omega)
                  have x95 : ((D : Int) == 95) = false := beq_eq_false_iff_ne.2 (by omega)
                  clear hv hn
                  go_wp2_with fail
                  go_roundw
                  case rel => exact ⟨k + 1, by omega, by go_num, Lib.hid (HQ.out.alloc _)⟩
                  case measure => simp [intOf]; omega
                · skip
                  have x_D_ge48 : decide ((48 : Int) ≤ (D : Int)) = true := decide_eq_true (by omega)
                  have x_D_le57 : decide ((D : Int) ≤ 57) = false := decide_eq_false (by omega)
                  have x_D_ge97 : decide ((97 : Int) ≤ (D : Int)) = false := decide_eq_false (by omega)
                  have x_D_le122 : decide ((D : Int) ≤ 122) = true := decide_eq_true (by omega)
                  have x_D_ge65 : decide ((65 : Int) ≤ (D : Int)) = true := decide_eq_true (by omega)
                  have x_D_le90 : decide ((D : Int) ≤ 90) = false := decide_eq_false (by omega)
                  have x95 : ((D : Int) == 95) = false := beq_eq_false_iff_ne.2 (by omega)
                  clear hv hn
                  go_wp2_with fail
                  go_roundw
                  case rel => exact ⟨k + 1, by omega, by go_num, Lib.hid (HQ.out.alloc _)⟩
                  case measure => simp [intOf]; omega
                · skip
                  have x_D_ge48 : decide ((48 : Int) ≤ (D : Int)) = true := decide_eq_true (by omega)
                  have x_D_le57 : decide ((D : Int) ≤ 57) = false := decide_eq_false (by omega)
                  have x_D_ge97 : decide ((97 : Int) ≤ (D : Int)) = true := decide_eq_true (by omega)
                  have x_D_le122 : decide ((D : Int) ≤ 122) = false := decide_eq_false (by omega)
                  have x_D_ge65 : decide ((65 : Int) ≤ (D : Int)) = true := decide_eq_true (by omega)
                  have x_D_le90 : decide ((D : Int) ≤ 90) = false := decide_eq_false (by omega)
                  have x95 : ((D : Int) == 95) = false := beq_eq_false_iff_ne.2 (by omega)
                  clear hv hn
                  go_wp2_with fail
                  go_roundw
                  case rel => exact ⟨k + 1, by omega, by go_num, Lib.hid (HQ.out.alloc _)⟩
                  case measure => simp [intOf]; omega
              · skip
                have x_C_ge48 : decide ((48 : Int) ≤ (C : Int)) = true := decide_eq_true (by omega)
                have x_C_le57 : decide ((C : Int) ≤ 57) = false := decide_eq_false (by omega)
                have x_C_ge97 : decide ((97 : Int) ≤ (C : Int)) = false := decide_eq_false (by omega)
                have x_C_le122 : decide ((C : Int) ≤ 122) = true := decide_eq_true (by omega)
                have x_C_ge65 : decide ((65 : Int) ≤ (C : Int)) = true := decide_eq_true (by omega)
                have x_C_le90 : decide ((C : Int) ≤ 90) = true := decide_eq_true (by omega)
                clear hv hc
                have hsp : (0 ≤ D ∧ D ≤ 47) ∨ (58 ≤ D ∧ D ≤ 64) ∨ (91 ≤ D ∧ D ≤ 94) ∨ (96 ≤ D ∧ D ≤ 96) ∨ (123 ≤ D) := by omega
                rcases hsp with hv | hv | hv | hv | hv
                · skip
                  have x_D_ge48 : decide ((48 : Int) ≤ (D : Int)) = false := decide_eq_false (by omega)
                  have x_D_le57 : decide ((D : Int) ≤ 57) = true := decide_eq_true (by omega)
                  have x_D_ge97 : decide ((97 : Int) ≤ (D : Int)) = false := decide_eq_false (by omega)
                  have x_D_le122 : decide ((D : Int) ≤ 122) = true := decide_eq_true (by omega)
                  have x_D_ge65 : decide ((65 : Int) ≤ (D : Int)) = false := decide_eq_false (by omega)
                  have x_D_le90 : decide ((D : Int) ≤ 90) = true := decide_eq_true (by omega)
                  have x95 : ((D : Int) == 95) = false := beq_eq_false_iff_ne.2 (by omega)
                  clear hv hn
                  go_wp2_with fail
                  go_roundw
                  case rel => exact ⟨k + 1, by omega, by go_num, Lib.hid (HQ.out.alloc _)⟩
                  case measure => simp [intOf]; omega
                · skip
                  have x_D_ge48 : decide ((48 : Int) ≤ (D : Int)) = true := decide_eq_true (by omega)
                  have x_D_le57 : decide ((D : Int) ≤ 57) = false := decide_eq_false (by omega)
                  have x_D_ge97 : decide ((97 : Int) ≤ (D : Int)) = false := decide_eq_false (by omega)
                  have x_D_le122 : decide ((D : Int) ≤ 122) = true := decide_eq_true (by omega)
                  have x_D_ge65 : decide ((65 : Int) ≤ (D : Int)) = false := decide_eq_false (by omega)
                  have x_D_le90 : decide ((D : Int) ≤ 90) = true := decide_eq_true (by omega)
                  have x95 : ((D : Int) == 95) = false := beq_eq_false_iff_ne.2 (by omega)
                  clear hv hn
                  go_wp2_with fail
                  go_roundw
                  case rel => exact ⟨k + 1, by omega, by go_num, Lib.hid (HQ.out.alloc _)⟩
                  case measure => simp [intOf]; omega
                · skip
                  have x_D_ge48 : decide ((48 : Int) ≤ (D : Int)) = true := decide_eq_true (by omega)
                  have x_D_le57 : decide ((D : Int) ≤ 57) = false := decide_eq_false (by omega)
                  have x_D_ge97 : decide ((97 : Int) ≤ (D : Int)) = false := decide_eq_false (by omega)
                  have x_D_le122 : decide ((D : Int) ≤ 122) = true := decide_eq_true (by omega)
                  have x_D_ge65 : decide ((65 : Int) ≤ (D : Int)) = true := decide_eq_true (by omega)
                  have x_D_le90 : decide ((D : Int) ≤ 90) = false := decide_eq_false (by omega)
                  have x95 : ((D : Int) == 95) = false := beq_eq_false_iff_ne.2 (by omega)
                  clear hv hn
                  go_wp2_with fail
                  go_roundw
                  case rel => exact ⟨k + 1, by omega, by go_num, Lib.hid (HQ.out.alloc _)⟩
                  case measure => simp [intOf]; omega
                · skip
                  have x_D_ge48 : decide ((48 : Int) ≤ (D : Int)) = true := decide_eq_true (by omega)
                  have x_D_le57 : decide ((D : Int) ≤ 57) = false := decide_eq_false (by omega)
                  have x_D_ge97 : decide ((97 : Int) ≤ (D : Int)) = false := decide_eq_false (by omega)
                  have x_D_le122 : decide ((D : Int) ≤ 122) = true := decide_eq_true (by omega)
                  have x_D_ge65 : decide ((65 : Int) ≤ (D : Int)) = true := decide_eq_true (by omega)
                  have x_D_le90 : decide ((D : Int) ≤ 90) = false := decide_eq_false (by omega)
                  have x95 : ((D : Int) == 95) = false := beq_eq_false_iff_ne.2 (by omega)
                  clear hv hn
                  go_wp2_with fail
                  go_roundw
                  case rel => exact ⟨k + 1, by omega, by go_num, Lib.hid (HQ.out.alloc _)⟩
                  case measure => simp [intOf]; omega
                · skip
                  have x_D_ge48 : decide ((48 : Int) ≤ (D : Int)) = true := decide_eq_true (by omega)
                  have x_D_le57 : decide ((D : Int) ≤ 57) = false := decide_eq_false (by omega)
                  have x_D_ge97 : decide ((97 : Int) ≤ (D : Int)) = true := decide_eq_true (by omega)
                  have x_D_le122 : decide ((D : Int) ≤ 122) = false := decide_eq_false (by omega)
                  have x_D_ge65 : decide ((65 : Int) ≤ (D : Int)) = true := decide_eq_true (by omega)
                  have x_D_le90 : decide ((D : Int) ≤ 90) = false := decide_eq_false (by omega)
                  have x95 : ((D : Int) == 95) = false := beq_eq_false_iff_ne.2 (by omega)
                  clear hv hn
                  go_wp2_with fail
                  go_roundw
                  case rel => exact ⟨k + 1, by omega, by go_num, Lib.hid (HQ.out.alloc _)⟩
                  case measure => simp [intOf]; omega
          · cases o with
            | none =>
              have dL : decide ((P : Int) + (T.size : Int) < (s.size : Int)) = false := decide_eq_false (by have := g5 rfl; omega)
              clear hn g5
              have hsp : (48 ≤ C ∧ C ≤ 57) := by omega
              obtain ⟨hv1, hv2⟩ := hsp
              have hv := And.intro hv1 hv2
              clear hv1 hv2
              · skip
                have x_C_ge48 : decide ((48 : Int) ≤ (C : Int)) = true := decide_eq_true (by omega)
                have x_C_le57 : decide ((C : Int) ≤ 57) = true := decide_eq_true (by omega)
                have x_C_ge97 : decide ((97 : Int) ≤ (C : Int)) = false := decide_eq_false (by omega)
                have x_C_le122 : decide ((C : Int) ≤ 122) = true := decide_eq_true (by omega)
                have x_C_ge65 : decide ((65 : Int) ≤ (C : Int)) = false := decide_eq_false (by omega)
                have x_C_le90 : decide ((C : Int) ≤ 90) = true := decide_eq_true (by omega)
                clear hv hc
                go_wp2_with fail
                go_roundw
                case rel => exact ⟨k + 1, by omega, by go_num, Lib.hid (HQ.out.alloc _)⟩
                case measure => simp [intOf]; omega
            | some D =>
              obtain ⟨hD1, hD2⟩ := HG4.out D rfl
              have dL : decide ((P : Int) + (T.size : Int) < (s.size : Int)) = true := decide_eq_true (by omega)
              have hn := hn D rfl
              clear g5 HG4
              have hsp : (48 ≤ C ∧ C ≤ 57) := by omega
              obtain ⟨hv1, hv2⟩ := hsp
              have hv := And.intro hv1 hv2
              clear hv1 hv2
              · skip
                have x_C_ge48 : decide ((48 : Int) ≤ (C : Int)) = true := decide_eq_true (by omega)
                have x_C_le57 : decide ((C : Int) ≤ 57) = true := decide_eq_true (by omega)
                have x_C_ge97 : decide ((97 : Int) ≤ (C : Int)) = false := decide_eq_false (by omega)
                have x_C_le122 : decide ((C : Int) ≤ 122) = true := decide_eq_true (by omega)
                have x_C_ge65 : decide ((65 : Int) ≤ (C : Int)) = false := decide_eq_false (by omega)
                have x_C_le90 : decide ((C : Int) ≤ 90) = true := decide_eq_true (by omega)
                clear hv hc
                have hsp : (0 ≤ D ∧ D ≤ 47) ∨ (58 ≤ D) := by omega
                rcases hsp with hv | hv
                · skip
                  have x_D_ge48 : decide ((48 : Int) ≤ (D : Int)) = false := decide_eq_false (by omega)
                  have x_D_le57 : decide ((D : Int) ≤ 57) = true := decide_eq_true (by omega)
                  clear hv hn
                  go_wp2_with fail
                  go_roundw
                  case rel => exact ⟨k + 1, by omega, by go_num, Lib.hid (HQ.out.alloc _)⟩
                  case measure => simp [intOf]; omega
                · skip
                  have x_D_ge48 : decide ((48 : Int) ≤ (D : Int)) = true := decide_eq_true (by omega)
                  have x_D_le57 : decide ((D : Int) ≤ 57) = false := decide_eq_false (by omega)
                  clear hv hn
                  go_wp2_with fail
                  go_roundw
                  case rel => exact ⟨k + 1, by omega, by go_num, Lib.hid (HQ.out.alloc _)⟩
                  case measure => simp [intOf]; omega
          · cases o with
            | none =>
              have dL : decide ((P : Int) + (T.size : Int) < (s.size : Int)) = false := decide_eq_false (by have := g5 rfl; omega)
              have d2 : decide (2 < (T.size : Int)) = false := decide_eq_false (by omega)
              clear g5
              have hsp : (0 ≤ C ∧ C ≤ 47) ∨ (58 ≤ C ∧ C ≤ 64) ∨ (91 ≤ C ∧ C ≤ 96) ∨ (123 ≤ C) := by omega
              rcases hsp with hv | hv | hv | hv
              · skip
                have x_C_ge48 : decide ((48 : Int) ≤ (C : Int)) = false := decide_eq_false (by omega)
                have x_C_le57 : decide ((C : Int) ≤ 57) = true := decide_eq_true (by omega)
                have x_C_ge97 : decide ((97 : Int) ≤ (C : Int)) = false := decide_eq_false (by omega)
                have x_C_le122 : decide ((C : Int) ≤ 122) = true := decide_eq_true (by omega)
                have x_C_ge65 : decide ((65 : Int) ≤ (C : Int)) = false := decide_eq_false (by omega)
                have x_C_le90 : decide ((C : Int) ≤ 90) = true := decide_eq_true (by omega)
                clear hv hc hc2
                go_wp2_with fail
                go_roundw
                case rel => exact ⟨k + 1, by omega, by go_num, Lib.hid (HQ.out.alloc _)⟩
                case measure => simp [intOf]; omega
              · skip
                have x_C_ge48 : decide ((48 : Int) ≤ (C : Int)) = true := decide_eq_true (by omega)
                have x_C_le57 : decide ((C : Int) ≤ 57) = false := decide_eq_false (by omega)
                have x_C_ge97 : decide ((97 : Int) ≤ (C : Int)) = false := decide_eq_false (by omega)
                have x_C_le122 : decide ((C : Int) ≤ 122) = true := decide_eq_true (by omega)
                have x_C_ge65 : decide ((65 : Int) ≤ (C : Int)) = false := decide_eq_false (by omega)
                have x_C_le90 : decide ((C : Int) ≤ 90) = true := decide_eq_true (by omega)
                clear hv hc hc2
                go_wp2_with fail
                go_roundw
                case rel => exact ⟨k + 1, by omega, by go_num, Lib.hid (HQ.out.alloc _)⟩
                case measure => simp [intOf]; omega
              · skip
                have x_C_ge48 : decide ((48 : Int) ≤ (C : Int)) = true := decide_eq_true (by omega)
                have x_C_le57 : decide ((C : Int) ≤ 57) = false := decide_eq_false (by omega)
                have x_C_ge97 : decide ((97 : Int) ≤ (C : Int)) = false := decide_eq_false (by omega)
                have x_C_le122 : decide ((C : Int) ≤ 122) = true := decide_eq_true (by omega)
                have x_C_ge65 : decide ((65 : Int) ≤ (C : Int)) = true := decide_eq_true (by omega)
                have x_C_le90 : decide ((C : Int) ≤ 90) = false := decide_eq_false (by omega)
                clear hv hc hc2
                go_wp2_with fail
                go_roundw
                case rel => exact ⟨k + 1, by omega, by go_num, Lib.hid (HQ.out.alloc _)⟩
                case measure => simp [intOf]; omega
              · skip
                have x_C_ge48 : decide ((48 : Int) ≤ (C : Int)) = true := decide_eq_true (by omega)
                have x_C_le57 : decide ((C : Int) ≤ 57) = false := decide_eq_false (by omega)
                have x_C_ge97 : decide ((97 : Int) ≤ (C : Int)) = true := decide_eq_true (by omega)
                have x_C_le122 : decide ((C : Int) ≤ 122) = false := decide_eq_false (by omega)
                have x_C_ge65 : decide ((65 : Int) ≤ (C : Int)) = true := decide_eq_true (by omega)
                have x_C_le90 : decide ((C : Int) ≤ 90) = false := decide_eq_false (by omega)
                clear hv hc hc2
                go_wp2_with fail
                go_roundw
                case rel => exact ⟨k + 1, by omega, by go_num, Lib.hid (HQ.out.alloc _)⟩
                case measure => simp [intOf]; omega
            | some D =>
              obtain ⟨hD1, hD2⟩ := HG4.out D rfl
              have dL : decide ((P : Int) + (T.size : Int) < (s.size : Int)) = true := decide_eq_true (by omega)
              have d2 : decide (2 < (T.size : Int)) = false := decide_eq_false (by omega)
              clear g5 HG4
              have hsp : (0 ≤ C ∧ C ≤ 47) ∨ (58 ≤ C ∧ C ≤ 64) ∨ (91 ≤ C ∧ C ≤ 96) ∨ (123 ≤ C) := by omega
              rcases hsp with hv | hv | hv | hv
              · skip
                have x_C_ge48 : decide ((48 : Int) ≤ (C : Int)) = false := decide_eq_false (by omega)
                have x_C_le57 : decide ((C : Int) ≤ 57) = true := decide_eq_true (by omega)
                have x_C_ge97 : decide ((97 : Int) ≤ (C : Int)) = false := decide_eq_false (by omega)
                have x_C_le122 : decide ((C : Int) ≤ 122) = true := decide_eq_true (by omega)
                have x_C_ge65 : decide ((65 : Int) ≤ (C : Int)) = false := decide_eq_false (by omega)
                have x_C_le90 : decide ((C : Int) ≤ 90) = true := decide_eq_true (by omega)
                clear hv hc hc2
                have hsp : (0 ≤ D ∧ D ≤ 47) ∨ (48 ≤ D ∧ D ≤ 57) ∨ (58 ≤ D) := by omega
                rcases hsp with hv | hv | hv
                · skip
                  have x_D_ge48 : decide ((48 : Int) ≤ (D : Int)) = false := decide_eq_false (by omega)
                  have x_D_le57 : decide ((D : Int) ≤ 57) = true := decide_eq_true (by omega)
                  clear hv
                  go_wp2_with fail
                  go_roundw
                  case rel => exact ⟨k + 1, by omega, by go_num, Lib.hid (HQ.out.alloc _)⟩
                  case measure => simp [intOf]; omega
                · skip
                  have x_D_ge48 : decide ((48 : Int) ≤ (D : Int)) = true := decide_eq_true (by omega)
                  have x_D_le57 : decide ((D : Int) ≤ 57) = true := decide_eq_true (by omega)
                  clear hv
                  go_wp2_with fail
                  go_roundw
                  case rel => exact ⟨k + 1, by omega, by go_num, Lib.hid (HQ.out.alloc _)⟩
                  case measure => simp [intOf]; omega
                · skip
                  have x_D_ge48 : decide ((48 : Int) ≤ (D : Int)) = true := decide_eq_true (by omega)
                  have x_D_le57 : decide ((D : Int) ≤ 57) = false := decide_eq_false (by omega)
                  clear hv
                  go_wp2_with fail
                  go_roundw
                  case rel => exact ⟨k + 1, by omega, by go_num, Lib.hid (HQ.out.alloc _)⟩
                  case measure => simp [intOf]; omega
              · skip
                have x_C_ge48 : decide ((48 : Int) ≤ (C : Int)) = true := decide_eq_true (by omega)
                have x_C_le57 : decide ((C : Int) ≤ 57) = false := decide_eq_false (by omega)
                have x_C_ge97 : decide ((97 : Int) ≤ (C : Int)) = false := decide_eq_false (by omega)
                have x_C_le122 : decide ((C : Int) ≤ 122) = true := decide_eq_true (by omega)
                have x_C_ge65 : decide ((65 : Int) ≤ (C : Int)) = false := decide_eq_false (by omega)
                have x_C_le90 : decide ((C : Int) ≤ 90) = true := decide_eq_true (by omega)
                clear hv hc hc2
                have hsp : (0 ≤ D ∧ D ≤ 47) ∨ (48 ≤ D ∧ D ≤ 57) ∨ (58 ≤ D) := by omega
                rcases hsp with hv | hv | hv
                · skip
                  have x_D_ge48 : decide ((48 : Int) ≤ (D : Int)) = false := decide_eq_false (by omega)
                  have x_D_le57 : decide ((D : Int) ≤ 57) = true := decide_eq_true (by omega)
                  clear hv
                  go_wp2_with fail
                  go_roundw
                  case rel => exact ⟨k + 1, by omega, by go_num, Lib.hid (HQ.out.alloc _)⟩
                  case measure => simp [intOf]; omega
                · skip
                  have x_D_ge48 : decide ((48 : Int) ≤ (D : Int)) = true := decide_eq_true (by omega)
                  have x_D_le57 : decide ((D : Int) ≤ 57) = true := decide_eq_true (by omega)
                  clear hv
                  go_wp2_with fail
                  go_roundw
                  case rel => exact ⟨k + 1, by omega, by go_num, Lib.hid (HQ.out.alloc _)⟩
                  case measure => simp [intOf]; omega
                · skip
                  have x_D_ge48 : decide ((48 : Int) ≤ (D : Int)) = true := decide_eq_true (by omega)
                  have x_D_le57 : decide ((D : Int) ≤ 57) = false := decide_eq_false (by omega)
                  clear hv
                  go_wp2_with fail
                  go_roundw
                  case rel => exact ⟨k + 1, by omega, by go_num, Lib.hid (HQ.out.alloc _)⟩
                  case measure => simp [intOf]; omega
              · skip
                have x_C_ge48 : decide ((48 : Int) ≤ (C : Int)) = true := decide_eq_true (by omega)
                have x_C_le57 : decide ((C : Int) ≤ 57) = false := decide_eq_false (by omega)
                have x_C_ge97 : decide ((97 : Int) ≤ (C : Int)) = false := decide_eq_false (by omega)
                have x_C_le122 : decide ((C : Int) ≤ 122) = true := decide_eq_true (by omega)
                have x_C_ge65 : decide ((65 : Int) ≤ (C : Int)) = true := decide_eq_true (by omega)
                have x_C_le90 : decide ((C : Int) ≤ 90) = false := decide_eq_false (by omega)
                clear hv hc hc2
                have hsp : (0 ≤ D ∧ D ≤ 47) ∨ (48 ≤ D ∧ D ≤ 57) ∨ (58 ≤ D) := by omega
                rcases hsp with hv | hv | hv
                · skip
                  have x_D_ge48 : decide ((48 : Int) ≤ (D : Int)) = false := decide_eq_false (by omega)
                  have x_D_le57 : decide ((D : Int) ≤ 57) = true := decide_eq_true (by omega)
                  clear hv
                  go_wp2_with fail
                  go_roundw
                  case rel => exact ⟨k + 1, by omega, by go_num, Lib.hid (HQ.out.alloc _)⟩
                  case measure => simp [intOf]; omega
                · skip
                  have x_D_ge48 : decide ((48 : Int) ≤ (D : Int)) = true := decide_eq_true (by omega)
                  have x_D_le57 : decide ((D : Int) ≤ 57) = true := decide_eq_true (by omega)
                  clear hv
                  go_wp2_with fail
                  go_roundw
                  case rel => exact ⟨k + 1, by omega, by go_num, Lib.hid (HQ.out.alloc _)⟩
                  case measure => simp [intOf]; omega
                · skip
                  have x_D_ge48 : decide ((48 : Int) ≤ (D : Int)) = true := decide_eq_true (by omega)
                  have x_D_le57 : decide ((D : Int) ≤ 57) = false := decide_eq_false (by omega)
                  clear hv
                  go_wp2_with fail
                  go_roundw
                  case rel => exact ⟨k + 1, by omega, by go_num, Lib.hid (HQ.out.alloc _)⟩
                  case measure => simp [intOf]; omega
              · skip
                have x_C_ge48 : decide ((48 : Int) ≤ (C : Int)) = true := decide_eq_true (by omega)
                have x_C_le57 : decide ((C : Int) ≤ 57) = false := decide_eq_false (by omega)
                have x_C_ge97 : decide ((97 : Int) ≤ (C : Int)) = true := decide_eq_true (by omega)
                have x_C_le122 : decide ((C : Int) ≤ 122) = false := decide_eq_false (by omega)
                have x_C_ge65 : decide ((65 : Int) ≤ (C : Int)) = true := decide_eq_true (by omega)
                have x_C_le90 : decide ((C : Int) ≤ 90) = false := decide_eq_false (by omega)
                clear hv hc hc2
                have hsp : (0 ≤ D ∧ D ≤ 47) ∨ (48 ≤ D ∧ D ≤ 57) ∨ (58 ≤ D) := by omega
                rcases hsp with hv | hv | hv
                · skip
                  have x_D_ge48 : decide ((48 : Int) ≤ (D : Int)) = false := decide_eq_false (by omega)
                  have x_D_le57 : decide ((D : Int) ≤ 57) = true := decide_eq_true (by omega)
                  clear hv
                  go_wp2_with fail
                  go_roundw
                  case rel => exact ⟨k + 1, by omega, by go_num, Lib.hid (HQ.out.alloc _)⟩
                  case measure => simp [intOf]; omega
                · skip
                  have x_D_ge48 : decide ((48 : Int) ≤ (D : Int)) = true := decide_eq_true (by omega)
                  have x_D_le57 : decide ((D : Int) ≤ 57) = true := decide_eq_true (by omega)
                  clear hv
                  go_wp2_with fail
                  go_roundw
                  case rel => exact ⟨k + 1, by omega, by go_num, Lib.hid (HQ.out.alloc _)⟩
                  case measure => simp [intOf]; omega
                · skip
                  have x_D_ge48 : decide ((48 : Int) ≤ (D : Int)) = true := decide_eq_true (by omega)
                  have x_D_le57 : decide ((D : Int) ≤ 57) = false := decide_eq_false (by omega)
                  clear hv
                  go_wp2_with fail
                  go_roundw
                  case rel => exact ⟨k + 1, by omega, by go_num, Lib.hid (HQ.out.alloc _)⟩
                  case measure => simp [intOf]; omega
        · go_wp2_with fail
          go_ret
          exact ⟨rfl, p2.out.trans HQ.out⟩

theorem reads (os : Os) {H : Type} (enc : TypeId × Value → H) : ∃ places, DataW.whole enc Tryd.prog ((laidWorld os).forCall (fun _ _ => 0) ⟨#[], #[.string .empty], []⟩).memory Tryd.f8.params.toList Rows.lexKindsSpec.vars false (#[.string .empty] : Array Value).toList 8 = some ([.lit (.string [])], [], places) :=
  ⟨[], by kernel_rfl⟩

set_option maxRecDepth 100000 in
theorem contract (H : Type) (enc : TypeId × Value → H) (W : World) (base : Nat) (args : Array Value) (ds gs : List (DataW H)) (before : List MemPlace)
    (hval : ∀ (j : Nat) t v, Tryd.f8.params[j]? = some t → args[j]? = some v → Value.okWide Tryd.prog W .any base t v)
    (hW : DataW.Whole enc Tryd.prog Tryd.f8.params.toList Rows.lexKindsSpec.vars false W args.toList ds gs before)
    (hsz0 : (DataW.weightsEach Tryd.prog (Tryd.f8.params.toList ++ Rows.lexKindsSpec.plain.varTypes Tryd.prog) (ds ++ gs)).all (· ≤ reachBytes) = true) :
    Calls Tryd.prog 8 args W fun e W' => ∃ v, e = .returned v ∧ Rows.lexKindsSpec.post enc Tryd.prog Tryd.f8 false true false false W args v W' := by
  have hW' := hW
  obtain ⟨p, q, hA0, hV, rfl, hfz, hnd⟩ := hW
  have hA : DataW.TrodAll enc Tryd.prog W 0 (fun _ => true) true Tryd.f8.params.toList args.toList ds p := hA0
  rw [Tryd.params8] at hA hval
  obtain ⟨v0, vs0, d0, ds0, p0, q0, hargs, rfl, rfl, h0, r0⟩ := trodAll_cons hA
  obtain ⟨rfl, rfl, rfl⟩ := trodAll_nil r0
  obtain rfl : args = #[v0] := by cases args; simp_all
  obtain ⟨rfl, rfl⟩ := trodVars_none hV
  clear hsz0
  obtain ⟨s, rfl, rfl, rfl, hmax⟩ := open_string Tryd.underlying9 (hval 0 9 v0 rfl rfl) h0
  clear hA0
  refine (walk s W).mono fun e W' ⟨he, hg⟩ => ?_
  subst he
  exact ⟨_, rfl, post_law laid (by rw [Tryd.params8]; decide +kernel) rfl rfl (by kernel_rfl) Tryd.underlying4 hW' hg⟩

set_option maxRecDepth 100000 in
theorem lifted (os : Os) (started : os.Started) (H : Type) (enc : TypeId × Value → H) (F : Stop.Interp) :
    ReturnsInHanded {} Tryd.checked os 8 .any ((OpenSpec.ofChange Rows.lexKindsSpec).preRow enc Tryd.prog Tryd.f8 Rows.lexKindsRow.domain false Rows.lexKindsRow.laid) (((OpenSpec.ofChange Rows.lexKindsSpec).at F).post enc Tryd.prog Tryd.f8 false true false false) := by
  obtain ⟨places, hx⟩ := reads os enc
  refine returnsInHanded_of_row (C := Tryd.checked) (s := OpenSpec.ofChange Rows.lexKindsSpec) own started (by kernel_rfl) Tryd.func8
    (witness_row_at (enc := enc) (C := Tryd.checked) false (laidWorld os) #[.string .empty] rfl (laid_vars os _) (by kernel_rfl) (by kernel_rfl)
      (OpenSpec.preRow_of_cond 8 hx (by kernel_rfl) (fun k hk => by cases hk) (by kernel_rfl) (laid_met os _))) ?_
  intro W base args ds gs before hval hW _ _ hsz _ _ _
  exact contract H enc W base args ds gs before hval hW hsz

theorem said : Rows.LexKindsSaid :=
  OpenClaim.holds_of_cond 8 Tryd.f8 rfl rfl rfl rfl rfl rfl rfl ⟨rfl, rfl, rfl, rfl, rfl⟩ rfl rfl rfl rfl rfl (by kernel_rfl) Tryd.func8 (by kernel_rfl)
    (of_decide_eq_true (by kernel_rfl)) (by unfold Func.isWrapper; first | (rw [if_pos (by decide +kernel)]; kernel_rfl) | (rw [if_neg (by decide +kernel)]; exact ⟨rfl, rfl⟩))
    (fun os started H enc _ F => by rw [OpenClaim.pre_eq_preRow]; exact lifted os started H enc F)

theorem plain (f : FuncId) (fn : Func) (hf : Tryd.pinned.checked.prog.funcNamed "tammy/tammylaw06.LexKinds" = some f) (hfn : Tryd.pinned.checked.prog.funcs[f]? = some fn) :
    true = Tryd.pinned.checked.prog.looks [] ∧ ∀ (j : Nat) t, fn.params[j]? = some t → Tryd.pinned.checked.prog.wantsStandIn t = false := by
  obtain rfl : f = 8 := Option.some.inj ((show Tryd.prog.funcNamed "tammy/tammylaw06.LexKinds" = some 8 by kernel_rfl).symm.trans hf) |>.symm
  obtain rfl : fn = Tryd.f8 := (Option.some.inj (Tryd.func8.symm.trans hfn)).symm
  refine ⟨by kernel_rfl, fun j t ht => ?_⟩
  rw [Tryd.params8] at ht
  have hm := Array.mem_of_getElem? ht
  simp only [List.mem_toArray, List.mem_cons, List.not_mem_nil, or_false] at hm
  rcases hm with rfl
  · exact (show Tryd.prog.wantsStandIn 9 = false by kernel_rfl)

/-- THE STATEMENT: the tied card -/
theorem card : Rows.LexKindsCardSaid :=
  Claim7.holds_tied_plain_at .later [] _ _ _ _ said (fun _ h => by cases h) (by kernel_rfl) (fun _ h => by cases h) lexKinds_row_tie rfl ⟨rfl, rfl⟩ (by kernel_rfl) rfl plain (by kernel_rfl)
end Go.Proofs.YtanbhfhhomopfaaDoor.lexKinds
