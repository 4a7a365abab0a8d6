/-
  Contracts of the document's Known, vary, Turn.
-/
import Derived.Test.YtmohedkhbjeapaaRef8B
import Derived.Test.YtmohedkhbjeapaaRef7F
import Derived.Deep.QuietTactic
import Derived.BigQuiet
namespace Go.Proofs.Ytmohedkhbjeapaa.Ex
open Go.RowKit Kit Rw
open Go.Proofs.Ytmohedkhbjeapaa.Sg (Sig findI Row refFind_any)

theorem findI_cases (t : ByteArray) : ∀ (l : List Sig) (k : Nat), findI t l k = -1 ∨ ∃ (j : Nat) (h : j < l.length), findI t l k = ((k + j : Nat) : Int) ∧ l[j].1 = t
  | [], k => .inl rfl
  | s :: l, k => by
    unfold findI
    cases h : Sg.eqS s.1 t
    · rw [if_neg (by simp)]
      rcases findI_cases t l (k + 1) with h1 | ⟨j, hj, h1, h2⟩
      · exact .inl h1
      · exact .inr ⟨j + 1, by simp; omega, by rw [h1]; congr 1; omega, by simpa using h2⟩
    · rw [if_pos rfl]
      exact .inr ⟨0, by simp, by simp, by simpa using (Sg.eqS_iff _ _).1 h⟩
theorem known_no {L : List Sig} {n : Tg} (h : findI n.2.1 L 0 = -1) : knownB L n = false := by
  unfold knownB; rw [h]; rfl
theorem known_at {L : List Sig} {n : Tg} {j : Nat} (hj : j < L.length) (h : findI n.2.1 L 0 = (j : Int)) : knownB L n = (if n.1 = 3 then decide ((L[j].2.size : Int) = n.2.2) else decide (n.2.2 ≤ (L[j].2.size : Int))) ∧ argsOf L n = L[j].2 := by
  have ha : argsOf L n = L[j].2 := by
    unfold argsOf
    rw [h, Int.toNat_natCast, List.getElem?_eq_getElem hj]
    rfl
  refine ⟨?_, ha⟩
  unfold knownB
  rw [h, ha, if_neg (by omega)]

set_option maxRecDepth 100000 in
set_option maxHeartbeats 2000000 in
theorem known_any (A : Option Addr) (m c : Nat) (L : List Sig) (n : Tg) (w : World) (hm : m = L.length) (hr : Row w w.heap.size A L) (hl : L.length ≤ 1000) :
    Calls Try.prog 24 #[.slice A m c, .agg #[.int .i64 n.1, .string n.2.1, .int .i64 n.2.2]] w fun e w' => e = .returned (.bool (knownB L n)) ∧ Q w w' := by
  subst hm
  have hq := (Q.refl w).alloc (Obj.cells #[.int .i64 n.1, .string n.2.1, .int .i64 n.2.2] 38)
  have hO := own_new8 w [.int .i64 n.1, .string n.2.1, .int .i64 n.2.2] 38
  have x0 := (hO.2 0 _ rfl).1
  have x1 := (hO.2 1 _ rfl).1
  have x2 := (hO.2 2 _ rfl).1
  have hr1 := (hr.q (Nat.le_refl _) hq).more hq.size
  have CF := Lib.hid (fun W (h : Row W W.heap.size A L) => refFind_any A L.length c L n.2.1 W rfl h (by unfold maxLen; omega))
  have HR := Lib.hid hr1
  have HQ := Lib.hid hq
  rcases findI_cases n.2.1 L 0 with hf | ⟨j, hj, hf, _⟩
  · have HK := Lib.hid (known_no hf)
    rw [hf] at CF
    clear hr hr1 hq hO hf
    go_enter Try.func24, Try.ntmps24
    go_wp2_with (go_at_call 25; refine (CF.out _ HR.out).mono ?_; rintro e w1 ⟨rfl, rfl⟩)
    go_ret
    exact ⟨by rw [HK.out]; rfl, HQ.out⟩
  · rw [Nat.zero_add] at hf
    have HK := Lib.hid (known_at hj hf).1
    rw [hf] at CF
    obtain ⟨ad, rfl, hb, a0, a1⟩ := hr1.at_ hj
    have d0 : decide ((j : Int) < 0) = false := decide_eq_false (by omega)
    clear hr hr1 hq hO hf a0
    cases hk : (n.1 == 3)
    · have hk3 : ¬ n.1 = 3 := by simpa using hk
      rw [if_neg hk3] at HK
      clear hk3
      generalize L[j].2 = sz at *
      generalize n.1 = k at *
      generalize n.2.2 = N at *
      go_enter Try.func24, Try.ntmps24
      go_wp2_with (go_at_call 25; refine (CF.out _ HR.out).mono ?_; rintro e w1 ⟨rfl, rfl⟩)
      go_quiet (fail)
      go_wp2_with fail
      go_ret
      exact ⟨by rw [HK.out]; rfl, HQ.out.drewN _⟩
    · have hk3 : n.1 = 3 := by simpa using hk
      rw [if_pos hk3] at HK
      clear hk3
      generalize L[j].2 = sz at *
      generalize n.1 = k at *
      generalize n.2.2 = N at *
      go_enter Try.func24, Try.ntmps24
      go_wp2_with (go_at_call 25; refine (CF.out _ HR.out).mono ?_; rintro e w1 ⟨rfl, rfl⟩)
      go_quiet (fail)
      go_wp2_with fail
      go_ret
      exact ⟨by rw [HK.out]; rfl, HQ.out.drewN _⟩
end Go.Proofs.Ytmohedkhbjeapaa.Ex
