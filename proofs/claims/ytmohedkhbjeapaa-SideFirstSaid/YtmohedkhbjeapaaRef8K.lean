/-
  Contract of the statements' of: are a row of constructors, and nodes, right, and short?
-/
import Derived.Test.YtmohedkhbjeapaaRef8J
import Derived.Test.YtmohedkhbjeapaaRef8I
import Derived.Test.YtmohedkhbjeapaaRef7R
namespace Go.Proofs.Ytmohedkhbjeapaa.Ex
open Go.RowKit Kit Rw
open Go.Proofs.Ytmohedkhbjeapaa.Sg (Sig findI Row Sized refRight_any)

theorem right_run {l : List Tg} (h : rightB l = true) : (∀ t ∈ l, mayN t = true) ∧ (∃ x : Ex, runS [] l = some [x]) ∧ 0 < l.length := by
  unfold rightB at h
  cases hc : countN 0 l with
  | none => rw [hc] at h; cases h
  | some k =>
    rw [hc] at h
    have hk : k = 1 := by
      match k, h with
      | 1, _ => rfl
    subst hk
    obtain ⟨hm, st, hr, hl⟩ := count_run l [] 1 hc
    obtain ⟨x, rfl⟩ : ∃ x, st = [x] := by
      match st, hl with
      | [x], _ => exact ⟨x, rfl⟩
    have h2 : x.nodes = l := by simpa [nodesL] using (run_nodes hr).2
    have hpos : 0 < l.length := by
      have := size_pos x
      unfold Ex.size at this
      rwa [h2] at this
    exact ⟨hm, ⟨x, hr⟩, hpos⟩
def ofB (L : List Sig) (l : List Tg) : Bool := decide (L.length ≤ 64) && (Sg.rightB L && (decide (total7 l ≤ 600) && rightB l))
set_option maxRecDepth 100000 in
set_option maxHeartbeats 4000000 in
theorem of_any8 (A B : Option Addr) (m c n d : Nat) (L : List Sig) (l : List Tg) (w : World) (hm : m = L.length) (hn : n = l.length) (hL : Row w w.heap.size A L) (hS : Sized L) (hl8 : L.length ≤ maxLen) (hr : Rds w w.heap.size B (cellsG l)) (hl : l.length ≤ 140737488355328) (hz : ∀ t ∈ l, t.2.1.size ≤ 140737488355328) :
    Calls Try.prog 11 #[.slice A m c, .slice B n d] w fun e w' => e = .returned (.bool (ofB L l)) ∧ Q w w' := by
  subst hm hn
  by_cases h64 : L.length ≤ 64
  · have HO : Hid (ofB L l = (Sg.rightB L && (decide (total7 l ≤ 600) && rightB l))) := by unfold Hid ofB; rw [decide_eq_true h64, Bool.true_and]
    have CR1 := Lib.hid (refRight_any A L.length c L w rfl hL hl8 hS)
    have CF := Lib.hid (fun (W : World) (q : Q w W) => few7_any B l.length d l W rfl (hr.q q) hl hz)
    have HR := Lib.hid hr
    have d0 : decide ((L.length : Int) ≤ 64) = true := decide_eq_true (by omega)
    clear hL hS hr hz
    cases h1 : Sg.rightB L
    · rw [h1, Bool.false_and] at HO
      rw [h1] at CR1
      clear h1 h64
      go_enter Try.func11, Try.ntmps11
      go_wp2_with fail
      refine CR1.out.mono ?_
      rintro e w1 ⟨rfl, q1⟩
      have p1 : Hid (Q w w1) := by rw [← q1]; exact Q.refl w
      clear q1
      go_wp2_with fail
      go_ret
      exact ⟨by rw [HO.out]; rfl, p1.out⟩
    · rw [h1, Bool.true_and] at HO
      rw [h1] at CR1
      clear h1
      by_cases hf : total7 l ≤ 600
      · rw [decide_eq_true hf, Bool.true_and] at HO
        rw [decide_eq_true hf] at CF
        have CR := Lib.hid (fun (W : World) (q : Q w W) => right7_any B l.length d l W rfl (HR.out.q q) hf)
        generalize rightB l = rb at *
        clear hf h64
        go_enter Try.func11, Try.ntmps11
        go_wp2_with fail
        refine CR1.out.mono ?_
        rintro e w1 ⟨rfl, q1⟩
        have p1 : Hid (Q w w1) := by rw [← q1]; exact Q.refl w
        clear q1
        go_wp2_with fail
        refine (CF.out _ p1.out).mono ?_
        rintro e w2 ⟨rfl, q2⟩
        have p2 := Lib.hid (p1.out.trans q2)
        clear q2
        go_wp2_with fail
        refine (CR.out _ p2.out).mono ?_
        rintro e w3 ⟨rfl, q3⟩
        have p3 := Lib.hid (p2.out.trans q3)
        clear q3
        go_wp2_with fail
        go_ret
        exact ⟨by rw [HO.out]; rfl, p3.out⟩
      · rw [decide_eq_false hf, Bool.false_and] at HO
        rw [decide_eq_false hf] at CF
        clear hf h64
        go_enter Try.func11, Try.ntmps11
        go_wp2_with fail
        refine CR1.out.mono ?_
        rintro e w1 ⟨rfl, q1⟩
        have p1 : Hid (Q w w1) := by rw [← q1]; exact Q.refl w
        clear q1
        go_wp2_with fail
        refine (CF.out _ p1.out).mono ?_
        rintro e w2 ⟨rfl, q2⟩
        have p2 := Lib.hid (p1.out.trans q2)
        clear q2
        go_wp2_with fail
        go_ret
        exact ⟨by rw [HO.out]; rfl, p2.out⟩
  · have HO : Hid (ofB L l = false) := by unfold Hid ofB; rw [decide_eq_false h64, Bool.false_and]
    have d0 : decide ((L.length : Int) ≤ 64) = false := decide_eq_false (by omega)
    have d1 : decide (L.length ≤ 64) = false := decide_eq_false h64
    clear hL hS hr hz h64
    go_enter Try.func11, Try.ntmps11
    go_wp2_with fail
    go_ret
    exact ⟨by rw [HO.out]; rfl, Q.refl _⟩
theorem ofB_out {L : List Sig} {l : List Tg} (h : ofB L l = true) : L.length ≤ 64 ∧ total7 l ≤ 600 ∧ (∀ t ∈ l, mayN t = true) ∧ (∃ x : Ex, runS [] l = some [x]) ∧ 0 < l.length ∧ l.length ≤ 600 := by
  unfold ofB at h
  simp only [Bool.and_eq_true, decide_eq_true_eq] at h
  obtain ⟨h1, _, h2, h3⟩ := h
  obtain ⟨a, b, c⟩ := right_run h3
  exact ⟨h1, h2, a, b, c, Nat.le_trans (total7_ge l) h2⟩
end Go.Proofs.Ytmohedkhbjeapaa.Ex
