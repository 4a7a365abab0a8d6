/-
  Contract of sig.Right.
-/
import Derived.Test.YtoabdeobaogkoaaSigC
namespace Go.Proofs.Ytoabdeobaogkoaa.Sg
open Go.RowKit Kit

def rightG (L : List Sig) : List Sig → Nat → Bool
  | [], _ => true
  | s :: l, k => (conB s.1 && partsB s.2 && (findI s.1 L 0 == (k : Int))) && rightG L l (k + 1)
def rightB (l : List Sig) : Bool := decide (l.length ≤ 64) && rightG l l 0
theorem rightG_at (L l : List Sig) (k : Nat) (h : k < l.length) : rightG L (l.drop k) k = ((conB l[k].1 && partsB l[k].2 && (findI l[k].1 L 0 == (k : Int))) && rightG L (l.drop (k + 1)) (k + 1)) := by
  rw [List.drop_eq_getElem_cons h]; rfl
theorem rightG_end (L l : List Sig) (k : Nat) (h : l.length ≤ k) : rightG L (l.drop k) k = true := by
  rw [List.drop_eq_nil_of_le h]; rfl

set_option maxHeartbeats 400000 in
theorem right_any (A : Option Addr) (n c : Nat) (l : List Sig) (w : World) (hn : n = l.length) (hr : Row w w.heap.size A l) (hl : l.length ≤ maxLen) :
    Calls Try.prog 19 #[.slice A n c] w fun e w' => e = .returned (.bool (rightB l)) ∧ Q w w' := by
  subst hn
  by_cases h64 : 64 < l.length
  · have HR : Hid (rightB l = false) := by unfold Hid rightB; rw [decide_eq_false (by omega)]; rfl
    go_enter Try.func19, Try.ntmps19
    go_wp2_with fail
    go_ret
    exact ⟨by rw [HR.out]; rfl, Q.refl _⟩
  · have HR : Hid (rightB l = rightG l l 0) := by unfold Hid rightB; rw [decide_eq_true (by omega)]; rfl
    have d : decide (64 < (l.length : Int)) = false := by simp; omega
    go_enter Try.func19, Try.ntmps19
    go_wp2_with fail
    go_loopw [3, 4, 10] (fun _ _ i wr => ∃ k : Nat, k ≤ l.length ∧ i = .int .i64 k ∧ Hid (rightG l l 0 = rightG l (l.drop k) k) ∧ Q w wr) (fun _ _ i _ => l.length - (intOf i).toNat)
    case atStart => exact ⟨0, Nat.zero_le _, rfl, Lib.hid (by simp), Q.refl _⟩
    case round =>
      obtain ⟨k, hk, rfl, HF, qr⟩ := hrel
      by_cases hlt : k < l.length
      · obtain ⟨ad, rfl, hb, c0, c1⟩ := (hr.q (Nat.le_refl _) qr).at_ hlt
        have HS := Lib.hid (rightG_at l l k hlt)
        have HRow := Lib.hid hr
        clear hr
        have q1 := qr.alloc (Obj.cells #[Value.string l[k].1, Value.string l[k].2] 24)
        cases h1 : nameB 97 122 l[k].1.data.toList
        · have HS' : Hid (rightG l (l.drop k) k = false) := by unfold Hid; rw [HS.out, conB, h1]; rfl
          go_wp2_with fail
          refine (isCon_any _ _).mono ?_
          rintro e w1 ⟨rfl, q2⟩
          go_wp2_with fail
          go_ret
          exact ⟨by rw [HR.out, HF.out, HS'.out]; rfl, q1.trans q2⟩
        · cases h2 : argsB l[k].2.data.toList
          · have HS' : Hid (rightG l (l.drop k) k = false) := by unfold Hid; rw [HS.out, conB, partsB, h1, h2]; rfl
            go_wp2_with fail
            refine (isCon_any _ _).mono ?_
            rintro e w1 ⟨rfl, q2⟩
            have k0 : w1.cell? ⟨wr.heap.size, 0, none⟩ = some (.string l[k].1) := by rw [q2.cell (by simp)]; simp
            have k1 : w1.cell? ⟨wr.heap.size, 1, none⟩ = some (.string l[k].2) := by rw [q2.cell (by simp)]; simp
            go_wp2_with fail
            refine (areArgs_any _ _).mono ?_
            rintro e w2 ⟨rfl, rfl⟩
            go_wp2_with fail
            go_ret
            exact ⟨by rw [HR.out, HF.out, HS'.out]; rfl, q1.trans q2⟩
          · cases h3 : (findI l[k].1 l 0 == (k : Int))
            · have HS' : Hid (rightG l (l.drop k) k = false) := by unfold Hid; rw [HS.out, conB, partsB, h1, h2, h3]; rfl
              have h3' : (findI l[k].1 l 0 != (k : Int)) = true := by rw [bne, h3]; rfl
              clear h3
              go_wp2_with fail
              refine (isCon_any _ _).mono ?_
              rintro e w1 ⟨rfl, q2⟩
              have k0 : w1.cell? ⟨wr.heap.size, 0, none⟩ = some (.string l[k].1) := by rw [q2.cell (by simp)]; simp
              have k1 : w1.cell? ⟨wr.heap.size, 1, none⟩ = some (.string l[k].2) := by rw [q2.cell (by simp)]; simp
              have q12 := q1.trans q2
              go_wp2_with fail
              refine (areArgs_any _ _).mono ?_
              rintro e w2 ⟨rfl, rfl⟩
              go_wp2_with fail
              refine (find_any _ _ _ l _ _ rfl ((HRow.out.q (Nat.le_refl _) q12).more q12.size) hl).mono ?_
              rintro e w3 ⟨rfl, q3⟩
              go_wp2_with fail
              go_ret
              exact ⟨by rw [HR.out, HF.out, HS'.out]; rfl, q12.trans q3⟩
            · have HS' : Hid (rightG l (l.drop k) k = rightG l (l.drop (k + 1)) (k + 1)) := by unfold Hid; rw [HS.out, conB, partsB, h1, h2, h3]; rfl
              have h3' : (findI l[k].1 l 0 != (k : Int)) = false := by rw [bne, h3]; rfl
              clear h3
              go_wp2_with fail
              refine (isCon_any _ _).mono ?_
              rintro e w1 ⟨rfl, q2⟩
              have k0 : w1.cell? ⟨wr.heap.size, 0, none⟩ = some (.string l[k].1) := by rw [q2.cell (by simp)]; simp
              have k1 : w1.cell? ⟨wr.heap.size, 1, none⟩ = some (.string l[k].2) := by rw [q2.cell (by simp)]; simp
              have q12 := q1.trans q2
              go_wp2_with fail
              refine (areArgs_any _ _).mono ?_
              rintro e w2 ⟨rfl, rfl⟩
              go_wp2_with fail
              refine (find_any _ _ _ l _ _ rfl ((HRow.out.q (Nat.le_refl _) q12).more q12.size) hl).mono ?_
              rintro e w3 ⟨rfl, q3⟩
              go_wp2_with fail
              go_roundw
              case rel => exact ⟨k + 1, by omega, by go_num, Lib.hid (HF.out.trans HS'.out), q12.trans q3⟩
              case measure => simp [intOf]; omega
      · have HS := Lib.hid (rightG_end l l k (by omega))
        go_wp2_with fail
        go_ret
        exact ⟨by rw [HR.out, HF.out, HS.out]; rfl, qr⟩
end Go.Proofs.Ytoabdeobaogkoaa.Sg
