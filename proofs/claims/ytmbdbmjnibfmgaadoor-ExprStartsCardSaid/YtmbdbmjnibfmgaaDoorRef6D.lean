/-
  Contracts of the document's answer: sign, Number; rows of tokens.
-/
import Derived.Test.YtmbdbmjnibfmgaaDoorRef6C
import Derived.Test.YtmbdbmjnibfmgaaDoorKitTg
import Derived.Deep.RegionHeld
import Derived.ProofKit
namespace Go.Proofs.YtmbdbmjnibfmgaaDoor.Lx
open Go.RowKit Kit Rw

def tg (t : Tk) : Tg := (t.kind, bs t.text, t.pos)
abbrev cellsT (l : List Tk) : List Value := cellsG (l.map tg)
theorem cellsT_append (a b : List Tk) : cellsT (a ++ b) = cellsT a ++ cellsT b := by simp [cellsT, cellsG_append]
theorem cellsT_single (k p : Nat) (t : List UInt8) : cellsT [⟨k, t, p⟩] = [.int .i64 k, .string (bs t), .int .i64 p] := rfl
theorem tokInfo : (Tryd.prog.info? 45).map (fun i => (i.zero, i.size, i.bytes)) = some (some (.agg #[.int .i64 0, .string ⟨#[]⟩, .int .i64 0]), 3, 32) := by kernel_rfl

theorem signs_get (k : Nat) (h : k < 14) (h' : k < signsS.size) : signsS[k] = signs[k]'(by simp [signs]; omega) := by
  rfl

theorem sign_at (k : Nat) (h : k < 14) (hx : k < signs.length) (u : World) : (Instr.index 9 (.string ⟨#[40, 41, 44, 124, 38, 126, 43, 45, 61, 42, 123, 125, 59, 58]⟩) (.int .i64 (k : Int))).run Tryd.prog u = .ok (.int .u8 ((signs[k]).toNat : Int)) u := by
  have hsz : (((⟨#[40, 41, 44, 124, 38, 126, 43, 45, 61, 42, 123, 125, 59, 58]⟩ : ByteArray).size : Nat) : Int) = 14 := rfl
  rw [run_index_string (P := Tryd.prog) u 9 _ .i64 (k : Int) Tryd.underlying9, dif_pos ⟨by omega, by rw [hsz]; omega⟩]
  rfl

set_option maxRecDepth 100000 in
set_option maxHeartbeats 1000000 in
theorem refSign_any (c : UInt8) (w : World) :
    Calls Tryd.prog 38 #[.int .u8 (c.toNat : Int)] w fun e w' => e = .returned (.bool (decide (c ∈ signs))) ∧ w = w' := by
  have hsl : signs.length = 14 := rfl
  go_enter Tryd.func38, Tryd.ntmps38
  go_wp2_with fail
  go_loopw [3] (fun i wr => ∃ k : Nat, k ≤ 14 ∧ i = .int .i64 k ∧ Hid (∀ j (h : j < signs.length), j < k → signs[j] ≠ c) ∧ wr = w) (fun i _ => 14 - (intOf i).toNat)
  case atStart => exact ⟨0, by omega, rfl, Lib.hid (fun j _ h => absurd h (by omega)), rfl⟩
  case round =>
    obtain ⟨k, hk, rfl, HK, rfl⟩ := hrel
    by_cases hlt : k < 14
    · have hs : k < signsS.size := hlt
      have hx : k < signs.length := by omega
      have hix := sign_at k hlt hx
      by_cases he : signs[k] = c
      · have HE : Hid (decide (c ∈ signs) = true) := decide_eq_true (by rw [← he]; exact List.getElem_mem hx)
        have hd : (((signs[k]).toNat : Int) == (c.toNat : Int)) = true := by rw [he]; simp
        generalize signs[k] = d at *
        go_wp2_with fail
        go_ret
        exact ⟨by rw [HE.out]; rfl, by trivial⟩
      · have hd : (((signs[k]).toNat : Int) == (c.toNat : Int)) = false := beq_eq_false_iff_ne.2 fun e => he ((u8_eq _ _).2 e)
        have HN : Hid (∀ j (h : j < signs.length), j < k + 1 → signs[j] ≠ c) := fun j h hj => by
          by_cases e : j = k
          · subst e; exact he
          · exact HK.out j h (by omega)
        generalize signs[k] = d at *
        go_wp2_with fail
        go_roundw
        case rel => exact ⟨k + 1, by omega, by go_num, HN, by trivial⟩
        case measure => simp [intOf]; omega
    · have HE : Hid (decide (c ∈ signs) = false) := decide_eq_false fun h => by
        obtain ⟨j, hj, e⟩ := List.getElem_of_mem h
        exact HK.out j hj (by omega) e
      go_wp2_with fail
      go_ret
      exact ⟨by rw [HE.out]; rfl, by trivial⟩

set_option maxRecDepth 100000 in
set_option maxHeartbeats 1000000 in
theorem refNumber_any (s : ByteArray) (w : World) (hs : s.size ≤ 1000000) :
    Calls Tryd.prog 37 #[.string s] w fun e w' => e = .returned (.tuple #[.int .i64 (((numOf s.data.toList).getD 0 : Nat) : Int), .bool (numOf s.data.toList).isSome]) ∧ w = w' := by
  have hl : s.data.toList.length = s.size := by simp
  by_cases h0 : s.size = 0
  · clear hl
    have es : s = ByteArray.empty := ByteArray.ext (Array.eq_empty_of_size_eq_zero h0)
    subst es
    go_enter Tryd.func37, Tryd.ntmps37
    go_wp2_with fail
    go_ret2
    exact ⟨rfl, rfl⟩
  · have hp : 0 < s.size := by omega
    have d0 : ((s.size : Int) == 0) = false := beq_eq_false_iff_ne.2 (by omega)
    by_cases h9 : 9 < s.size
    · have d9 : decide (9 < (s.size : Int)) = true := decide_eq_true (by omega)
      have HE : Hid (numOf s.data.toList = none) := by unfold Hid numOf; rw [if_pos (.inr (.inl (by omega)))]
      clear hl
      go_enter Tryd.func37, Tryd.ntmps37
      go_wp2_with fail
      go_ret2
      exact ⟨by rw [HE.out]; rfl, rfl⟩
    · have d9 : decide (9 < (s.size : Int)) = false := decide_eq_false (by omega)
      have hh : s.data.toList.head? = some (s[0]'hp) := by
        have := from_at s 0 (by omega)
        rw [from_zero] at this
        rw [this]; rfl
      by_cases hz : (s[0]'hp) = 48 ∧ 1 < s.size
      · have HE : Hid (numOf s.data.toList = none) := by unfold Hid numOf; rw [if_pos (.inr (.inr (.inl ⟨by rw [hh, hz.1], by omega⟩)))]
        have dz : (((s[0]'hp).toNat : Int) == 48) = true := by rw [hz.1]; rfl
        have d1 : decide (1 < (s.size : Int)) = true := decide_eq_true (by omega)
        clear hl hz hh
        go_enter Tryd.func37, Tryd.ntmps37
        go_wp2_with fail
        go_ret2
        exact ⟨by rw [HE.out]; rfl, rfl⟩
      · have HA : Hid (s.data.toList.all fig = true → numOf s.data.toList = some (valL 0 s.data.toList)) := fun h => by
          unfold numOf
          rw [if_neg]
          rintro (h2 | h2 | ⟨h2, h3⟩ | h2)
          · rw [h2] at hl; simp at hl; omega
          · omega
          · rw [hh] at h2; injection h2 with h2; exact hz ⟨h2, by omega⟩
          · rw [h] at h2; cases h2
        have HB : Hid (s.data.toList.all fig = false → numOf s.data.toList = none) := fun h => by
          unfold numOf; rw [if_pos (.inr (.inr (.inr h)))]
        have HW : Hid (∀ b : UInt8, 48 ≤ b.toNat ∧ b.toNat ≤ 57 → IntKind.u8.wrap ((b.toNat : Int) - 48) = (b.toNat : Int) - 48) := fun b h => by
          simp [IntKind.wrap, IntKind.signed, IntKind.bits]; omega
        have H10 : Hid (∀ k, k ≤ 9 → 10 ^ k ≤ 1000000000) := fun k hk => by
          have : 10 ^ k ≤ 10 ^ 9 := Nat.pow_le_pow_right (by omega) hk
          simpa using this
        by_cases hc : (s[0]'hp) = 48
        · have dz : (((s[0]'hp).toNat : Int) == 48) = true := by rw [hc]; rfl
          have d1 : decide (1 < (s.size : Int)) = false := decide_eq_false (fun h => hz ⟨hc, by omega⟩)
          clear hl hz hh hc
          go_enter Tryd.func37, Tryd.ntmps37
          go_wp2_with fail
          go_loopw [4, 5] (fun n i wr => ∃ k m : Nat, k ≤ s.size ∧ i = .int .i64 k ∧ n = .int .i64 m ∧ Hid (m + 1 ≤ 10 ^ k) ∧ Hid (m = valL 0 (s.data.toList.take k)) ∧ Hid ((s.data.toList.take k).all fig = true) ∧ wr = w) (fun _ i _ => s.size - (intOf i).toNat)
          case atStart => exact ⟨0, 0, by omega, rfl, rfl, Lib.hid (by simp), Lib.hid rfl, Lib.hid rfl, rfl⟩
          case round =>
            obtain ⟨k, m, hk, rfl, rfl, HM, HV, HF, rfl⟩ := hrel
            by_cases hlt : k < s.size
            · have HT := Lib.hid (take_snoc s k hlt)
              have hm : m ≤ 1000000000 := by have := HM.out; have := H10.out k (by omega); omega
              cases hf : fig s[k]
              · have HE : Hid (numOf s.data.toList = none) := HB.out (by
                  rw [← List.take_append_drop (k + 1) s.data.toList, HT.out]
                  simp [hf])
                by_cases hlo : s[k].toNat < 48
                · have e1 : decide ((s[k].toNat : Int) < 48) = true := decide_eq_true (by omega)
                  clear hf
                  go_wp2_with fail
                  go_ret2
                  exact ⟨by rw [HE.out]; rfl, by trivial⟩
                · have e1 : decide ((s[k].toNat : Int) < 48) = false := decide_eq_false (by omega)
                  have e2 : decide (57 < (s[k].toNat : Int)) = true := decide_eq_true (by
                    rcases Nat.lt_or_ge 57 s[k].toNat with h | h
                    · omega
                    · rw [(fig_iff s[k]).2 ⟨by omega, h⟩] at hf; cases hf)
                  clear hf
                  go_wp2_with fail
                  go_ret2
                  exact ⟨by rw [HE.out]; rfl, by trivial⟩
              · have hb := (fig_iff s[k]).1 hf
                have e1 : decide ((s[k].toNat : Int) < 48) = false := decide_eq_false (by omega)
                have e2 : decide (57 < (s[k].toNat : Int)) = false := decide_eq_false (by omega)
                have e3 := HW.out s[k] hb
                have HM' : Hid (m * 10 + (s[k].toNat - 48) + 1 ≤ 10 ^ (k + 1)) := by
                  have := HM.out
                  unfold Hid; rw [Nat.pow_succ]; omega
                have HV' : Hid (m * 10 + (s[k].toNat - 48) = valL 0 (s.data.toList.take (k + 1))) := by
                  unfold Hid; rw [HT.out, valL_snoc, ← HV.out]
                have HF' : Hid ((s.data.toList.take (k + 1)).all fig = true) := by
                  unfold Hid; rw [HT.out]; simp only [List.all_append, List.all_cons, List.all_nil, hf, Bool.and_true]; exact HF.out
                clear hf
                go_wp2_with fail
                go_roundw
                case rel => exact ⟨k + 1, m * 10 + (s[k].toNat - 48), by omega, by go_num, congrArg (Value.int .i64) (by omega), HM', HV', HF', by trivial⟩
                case measure => simp [intOf]; omega
            · have HE : Hid (numOf s.data.toList = some m) := by
                have h1 := HF.out
                have h2 := HV.out
                rw [List.take_of_length_le (by simp; omega)] at h1 h2
                unfold Hid
                rw [HA.out h1, h2]
              go_wp2_with fail
              go_ret2
              exact ⟨by rw [HE.out]; rfl, by trivial⟩
        · have dz : (((s[0]'hp).toNat : Int) == 48) = false := beq_eq_false_iff_ne.2 fun e => hc ((u8_eq _ _).2 e)
          clear hl hz hh hc
          go_enter Tryd.func37, Tryd.ntmps37
          go_wp2_with fail
          go_loopw [4, 5] (fun n i wr => ∃ k m : Nat, k ≤ s.size ∧ i = .int .i64 k ∧ n = .int .i64 m ∧ Hid (m + 1 ≤ 10 ^ k) ∧ Hid (m = valL 0 (s.data.toList.take k)) ∧ Hid ((s.data.toList.take k).all fig = true) ∧ wr = w) (fun _ i _ => s.size - (intOf i).toNat)
          case atStart => exact ⟨0, 0, by omega, rfl, rfl, Lib.hid (by simp), Lib.hid rfl, Lib.hid rfl, rfl⟩
          case round =>
            obtain ⟨k, m, hk, rfl, rfl, HM, HV, HF, rfl⟩ := hrel
            by_cases hlt : k < s.size
            · have HT := Lib.hid (take_snoc s k hlt)
              have hm : m ≤ 1000000000 := by have := HM.out; have := H10.out k (by omega); omega
              cases hf : fig s[k]
              · have HE : Hid (numOf s.data.toList = none) := HB.out (by
                  rw [← List.take_append_drop (k + 1) s.data.toList, HT.out]
                  simp [hf])
                by_cases hlo : s[k].toNat < 48
                · have e1 : decide ((s[k].toNat : Int) < 48) = true := decide_eq_true (by omega)
                  clear hf
                  go_wp2_with fail
                  go_ret2
                  exact ⟨by rw [HE.out]; rfl, by trivial⟩
                · have e1 : decide ((s[k].toNat : Int) < 48) = false := decide_eq_false (by omega)
                  have e2 : decide (57 < (s[k].toNat : Int)) = true := decide_eq_true (by
                    rcases Nat.lt_or_ge 57 s[k].toNat with h | h
                    · omega
                    · rw [(fig_iff s[k]).2 ⟨by omega, h⟩] at hf; cases hf)
                  clear hf
                  go_wp2_with fail
                  go_ret2
                  exact ⟨by rw [HE.out]; rfl, by trivial⟩
              · have hb := (fig_iff s[k]).1 hf
                have e1 : decide ((s[k].toNat : Int) < 48) = false := decide_eq_false (by omega)
                have e2 : decide (57 < (s[k].toNat : Int)) = false := decide_eq_false (by omega)
                have e3 := HW.out s[k] hb
                have HM' : Hid (m * 10 + (s[k].toNat - 48) + 1 ≤ 10 ^ (k + 1)) := by
                  have := HM.out
                  unfold Hid; rw [Nat.pow_succ]; omega
                have HV' : Hid (m * 10 + (s[k].toNat - 48) = valL 0 (s.data.toList.take (k + 1))) := by
                  unfold Hid; rw [HT.out, valL_snoc, ← HV.out]
                have HF' : Hid ((s.data.toList.take (k + 1)).all fig = true) := by
                  unfold Hid; rw [HT.out]; simp only [List.all_append, List.all_cons, List.all_nil, hf, Bool.and_true]; exact HF.out
                clear hf
                go_wp2_with fail
                go_roundw
                case rel => exact ⟨k + 1, m * 10 + (s[k].toNat - 48), by omega, by go_num, congrArg (Value.int .i64) (by omega), HM', HV', HF', by trivial⟩
                case measure => simp [intOf]; omega
            · have HE : Hid (numOf s.data.toList = some m) := by
                have h1 := HF.out
                have h2 := HV.out
                rw [List.take_of_length_le (by simp; omega)] at h1 h2
                unfold Hid
                rw [HA.out h1, h2]
              go_wp2_with fail
              go_ret2
              exact ⟨by rw [HE.out]; rfl, by trivial⟩
end Go.Proofs.YtmbdbmjnibfmgaaDoor.Lx
