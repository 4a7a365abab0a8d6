/-
  Contract of the document's Texts: are two rows of texts the same?
-/
import Derived.Test.YtmohedkhbjeapaaRef8H
namespace Go.Proofs.Ytmohedkhbjeapaa.Ex
open Go.RowKit Kit Rw

def eqT : List ByteArray → List ByteArray → Bool
  | [], [] => true
  | a :: l, b :: m => Sg.eqS a b && eqT l m
  | _, _ => false
theorem eqT_iff : ∀ (l m : List ByteArray), eqT l m = true ↔ l = m
  | [], [] => by simp [eqT]
  | [], _ :: _ => by simp [eqT]
  | _ :: _, [] => by simp [eqT]
  | a :: l, b :: m => by
    unfold eqT
    rw [Bool.and_eq_true, Sg.eqS_iff, eqT_iff l m]
    simp
theorem eqT_len {l m : List ByteArray} (h : l.length ≠ m.length) : eqT l m = false := by
  cases he : eqT l m
  · rfl
  · exact absurd (congrArg List.length ((eqT_iff l m).1 he)) h
theorem eqT_at (l m : List ByteArray) (k : Nat) (h : k < l.length) (h' : k < m.length) : eqT (l.drop k) (m.drop k) = (Sg.eqS l[k] m[k] && eqT (l.drop (k + 1)) (m.drop (k + 1))) := by
  rw [List.drop_eq_getElem_cons h, List.drop_eq_getElem_cons h']; rfl
set_option maxRecDepth 100000 in
set_option maxHeartbeats 1000000 in
theorem texts8_any (A A' : Option Addr) (n c n' c' : Nat) (l m : List ByteArray) (w : World) (hn : n = l.length) (hn' : n' = m.length) (hr : Rds w w.heap.size A (cellsS l)) (hr' : Rds w w.heap.size A' (cellsS m)) (hl : l.length ≤ 1000000) :
    Calls Try.prog 16 #[.slice A n c, .slice A' n' c'] w fun e w' => e = .returned (.bool (eqT l m)) ∧ Q w w' := by
  subst hn hn'
  by_cases hne : l.length = m.length
  · have HN := Lib.hid hne
    have HR := Lib.hid hr
    have HR' := Lib.hid hr'
    have n0 : ((l.length : Int) != (m.length : Int)) = false := by rw [hne]; simp
    clear hr hr' hne
    go_enter Try.func16, Try.ntmps16
    go_wp2_with fail
    go_loopw [5] (fun i wr => ∃ k : Nat, k ≤ l.length ∧ i = .int .i64 k ∧ Hid (eqT l m = eqT (l.drop k) (m.drop k)) ∧ Hid (Q w wr)) (fun i _ => l.length - (intOf i).toNat)
    case atStart => exact ⟨0, Nat.zero_le _, rfl, Lib.hid (by simp), Q.refl _⟩
    case round =>
      obtain ⟨k, hk, rfl, HT, HQ⟩ := hrel
      by_cases hlt : k < l.length
      · have hlt' : k < m.length := by rw [← HN.out]; exact hlt
        obtain ⟨ad, rfl, hb, c0⟩ := str_at (HR.out.q HQ.out) hlt
        obtain ⟨ad', rfl, hb', c0'⟩ := str_at (HR'.out.q HQ.out) hlt'
        have hst := HT.out.trans (eqT_at l m k hlt hlt')
        clear HT
        generalize l[k] = a at *
        generalize m[k] = b at *
        cases he : Sg.eqS a b
        · rw [he, Bool.false_and] at hst
          have HS := Lib.hid hst
          have he' : (a.toList == b.toList) = false := he
          clear he hst
          go_wp2_with fail
          go_quiet (fail)
          go_wp2_with fail
          go_ret
          exact ⟨by rw [HS.out]; rfl, HQ.out.drewN _⟩
        · rw [he, Bool.true_and] at hst
          have HS := Lib.hid hst
          have he' : (a.toList == b.toList) = true := he
          clear he hst
          go_wp2_with fail
          go_quiet (fail)
          go_wp2_with fail
          go_roundw
          case rel => exact ⟨k + 1, by omega, by go_num, HS, HQ.out.drewN _⟩
          case measure => simp [intOf]; omega
      · have HS : Hid (eqT l m = true) := by
          have h1 : l.drop k = [] := List.drop_of_length_le (by omega)
          have h2 : m.drop k = [] := List.drop_of_length_le (by rw [← HN.out]; omega)
          have := HT.out
          rw [h1, h2] at this
          exact this
        clear HT
        go_wp2_with fail
        go_ret
        exact ⟨by rw [HS.out]; rfl, HQ.out⟩
  · have HS := Lib.hid (eqT_len hne)
    have n0 : ((l.length : Int) != (m.length : Int)) = true := bne_iff_ne.2 (by omega)
    have n1 : (l.length != m.length) = true := bne_iff_ne.2 hne
    clear hr hr' hne
    go_enter Try.func16, Try.ntmps16
    go_wp2_with fail
    go_ret
    exact ⟨by rw [HS.out]; rfl, Q.refl _⟩
end Go.Proofs.Ytmohedkhbjeapaa.Ex
