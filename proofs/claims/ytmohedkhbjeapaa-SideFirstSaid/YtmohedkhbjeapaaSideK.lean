/-
  Contracts of package side: only, known, vary, fault; and of sig's Find.
-/
import Derived.Test.YtmohedkhbjeapaaRef8J
import Derived.RegionTactic
namespace Go.Proofs.Ytmohedkhbjeapaa.Ex
open Go.RowKit Kit Rw
open Go.Proofs.Ytmohedkhbjeapaa.Sg (Sig findI Row findI_at findI_end)

set_option maxHeartbeats 400000 in
theorem find_any (A : Option Addr) (n c : Nat) (l : List Sig) (t : ByteArray) (w : World) (hn : n = l.length) (hr : Row w w.heap.size A l) (hl : l.length ≤ maxLen) :
    Calls Try.prog 50 #[.slice A n c, .string t] w fun e w' => e = .returned (.int .i64 (findI t l 0)) ∧ Q w w' := by
  subst hn
  unfold maxLen at hl
  go_enter Try.func50, Try.ntmps50
  go_wp2_with fail
  go_loopw [4, 5, 6, 9] (fun _ _ _ i wr => ∃ k : Nat, k ≤ l.length ∧ i = .int .i64 k ∧ Hid (findI t l 0 = findI t (l.drop k) k) ∧ Q w wr) (fun _ _ _ i _ => l.length - (intOf i).toNat)
  case atStart => exact ⟨0, Nat.zero_le _, rfl, Lib.hid (by simp), Q.refl _⟩
  case round =>
    obtain ⟨k, hk, rfl, HF, qr⟩ := hrel
    by_cases hlt : k < l.length
    · obtain ⟨ad, rfl, hb, c0, c1⟩ := (hr.q (Nat.le_refl _) qr).at_ hlt
      have HS := Lib.hid (findI_at t l k hlt)
      clear hr
      cases he : Sg.eqS l[k].1 t
      · have HS' : Hid (findI t (l.drop k) k = findI t (l.drop (k + 1)) (k + 1)) := by have := HS.out; rw [he] at this; exact this
        have he' : (l[k].1.toList == t.toList) = false := he
        clear he
        go_wp2_with fail
        go_roundw
        case rel => exact ⟨k + 1, by omega, by go_num, Lib.hid (HF.out.trans HS'.out), qr.alloc _⟩
        case measure => simp [intOf]; omega
      · have HS' : Hid (findI t (l.drop k) k = k) := by have := HS.out; rw [he] at this; exact this
        have he' : (l[k].1.toList == t.toList) = true := he
        clear he
        go_wp2_with fail
        go_ret
        exact ⟨by rw [HF.out, HS'.out]; rfl, qr.alloc _⟩
    · have HS := Lib.hid (findI_end t l k (by omega))
      go_wp2_with fail
      go_ret
      exact ⟨by rw [HF.out, HS.out]; rfl, qr⟩

/-- who may stand on one side alone, on a side -/
def onlyB (may on : UInt8) : Int := if on = may then 0 else 6
theorem only_any (may on : UInt8) (w : World) :
    Calls Try.prog 41 #[.int .u8 (may.toNat : Int), .int .u8 (on.toNat : Int)] w fun e w' => e = .returned (.int .i64 (onlyB may on)) ∧ w = w' := by
  have HE : Hid ((on.toNat : Int) = (may.toNat : Int) ↔ on = may) := Lib.hid ⟨fun h => UInt8.toNat.inj (by omega), fun h => by rw [h]⟩
  by_cases h : on = may
  · have HO : Hid (onlyB may on = 0) := by unfold Hid onlyB; rw [if_pos h]
    have e0 : ((on.toNat : Int) == (may.toNat : Int)) = true := beq_iff_eq.2 (HE.out.2 h)
    clear HE h
    generalize (on.toNat : Int) = a at *
    generalize (may.toNat : Int) = b at *
    go_enter Try.func41, Try.ntmps41
    go_wp2_with fail
    go_ret
    exact ⟨by rw [HO.out]; rfl, rfl⟩
  · have HO : Hid (onlyB may on = 6) := by unfold Hid onlyB; rw [if_neg h]
    have e0 : ((on.toNat : Int) == (may.toNat : Int)) = false := beq_eq_false_iff_ne.2 fun e => h (HE.out.1 e)
    clear HE h
    generalize (on.toNat : Int) = a at *
    generalize (may.toNat : Int) = b at *
    go_enter Try.func41, Try.ntmps41
    go_wp2_with fail
    go_ret
    exact ⟨by rw [HO.out]; rfl, rfl⟩

/-- how a constructor's, or a projection's, parts vary; or why it isn't known -/
def howK (L : List Sig) (n : Tg) : ByteArray := if knownB L n then (if n.1 = 6 then (argsOf L n).extract (n.2.2 - 1).toNat n.2.2.toNat else argsOf L n) else ⟨#[]⟩
def whyK (L : List Sig) (n : Tg) : Int := if findI n.2.1 L 0 < 0 then 3 else if knownB L n then 0 else 5

theorem slice_str (W : World) (s : ByteArray) (a b : Nat) (ha : a ≤ b) (hb : b ≤ s.size) (a' b' : Int) (h1 : a' = a) (h2 : b' = b) :
    (Instr.slice 9 (.string s) (some (.int .i64 a')) (some (.int .i64 b')) none).run Try.prog W = .ok (.string (s.extract a b)) W := by
  subst h1 h2
  have := run_slice_string (P := Try.prog) (w := W) 9 s .i64 .i64 (a : Int) (b : Int) Try.underlying9 (by omega) (by omega) (by omega)
  rw [this, Int.toNat_natCast, Int.toNat_natCast]

set_option maxRecDepth 100000 in
set_option maxHeartbeats 2000000 in
theorem known8_any (A : Option Addr) (m c : Nat) (L : List Sig) (n : Tg) (w : World) (hm : m = L.length) (hr : Row w w.heap.size A L) (hl : L.length ≤ 1000) (hmay : mayN n = true) (h36 : n.1 = 3 ∨ n.1 = 6) :
    Calls Try.prog 40 #[.slice A m c, .agg #[.int .i64 n.1, .string n.2.1, .int .i64 n.2.2]] w fun e w' => e = .returned (.tuple #[.string (howK L n), .int .i64 (whyK L n)]) ∧ Q w w' := by
  subst hm
  have hq := (Q.refl w).alloc (Obj.cells #[.int .i64 n.1, .string n.2.1, .int .i64 n.2.2] 38)
  have hO := own_new8 w [.int .i64 n.1, .string n.2.1, .int .i64 n.2.2] 38
  have HO := Lib.hid hO
  have hr1 := (hr.q (Nat.le_refl _) hq).more hq.size
  have CF := Lib.hid (fun W (h : Row W W.heap.size A L) => find_any A L.length c L n.2.1 W rfl h (by unfold maxLen; omega))
  have HR := Lib.hid hr1
  have HQ := Lib.hid hq
  rcases findI_cases n.2.1 L 0 with hf | ⟨j, hj, hf, _⟩
  · have HK : Hid (howK L n = ⟨#[]⟩ ∧ whyK L n = 3) := by
      unfold Hid howK whyK
      rw [known_no hf, hf]
      exact ⟨rfl, rfl⟩
    rw [hf] at CF
    clear hr hr1 hq hf h36 hmay hO
    go_enter Try.func40, Try.ntmps40
    go_wp2_with (go_at_call 50; refine (CF.out _ HR.out).mono ?_; rintro e w1 ⟨rfl, q1⟩; have HQ1 := Lib.hid (HQ.out.trans q1))
    go_ret2
    exact ⟨by rw [HK.out.1, HK.out.2]; rfl, HQ1.out⟩
  · rw [Nat.zero_add] at hf
    obtain ⟨hkn, ha⟩ := known_at hj hf
    rw [hf] at CF
    obtain ⟨ad, rfl, hb, a0, a1⟩ := hr1.at_ hj
    have HC : Hid (∀ W, Q (w.alloc (Obj.cells #[.int .i64 n.1, .string n.2.1, .int .i64 n.2.2] 38)) W → W.cell? ⟨(ad.add (j * 2)).block, (ad.add (j * 2)).off + 1, none⟩ = some (.string L[j].2)) :=
      fun W q => (q.cell (p := ⟨(ad.add (j * 2)).block, (ad.add (j * 2)).off + 1, none⟩) (by show (ad.add (j * 2)).block < _; rw [add_block]; exact hb)).trans a1
    have d0 : decide ((j : Int) < 0) = false := decide_eq_false (by omega)
    have h0 : ¬ findI n.2.1 L 0 < 0 := by rw [hf]; omega
    obtain ⟨kd, nm, N⟩ := n
    simp only at *
    rcases h36 with rfl | rfl
    · rw [if_pos rfl] at hkn
      by_cases hs : (L[j].2.size : Int) = N
      · have HK : Hid (howK L (3, nm, N) = L[j].2 ∧ whyK L (3, nm, N) = 0) := by
          unfold Hid howK whyK
          rw [if_neg h0, hkn, decide_eq_true hs, ha]
          exact ⟨rfl, rfl⟩
        have e0 : (N == (L[j].2.size : Int)) = true := beq_iff_eq.2 hs.symm
        clear hr hr1 hq hf hmay hkn ha a0 a1 hs h0 hO
        generalize L[j].2 = sz at *
        go_enter Try.func40, Try.ntmps40
        go_wp2_with (go_at_call 50; refine (CF.out _ HR.out).mono ?_; rintro e w1 ⟨rfl, q1⟩; have HQ1 := Lib.hid (HQ.out.trans q1); have a1 := HC.out _ q1; have x0 := ((HO.out.q q1).2 0 _ rfl).1; have x1 := ((HO.out.q q1).2 1 _ rfl).1; have x2 := ((HO.out.q q1).2 2 _ rfl).1)
        go_ret2
        exact ⟨by rw [HK.out.1, HK.out.2]; rfl, HQ1.out⟩
      · have HK : Hid (howK L (3, nm, N) = ⟨#[]⟩ ∧ whyK L (3, nm, N) = 5) := by
          unfold Hid howK whyK
          rw [if_neg h0, hkn, decide_eq_false hs]
          exact ⟨rfl, rfl⟩
        have e0 : (N == (L[j].2.size : Int)) = false := beq_eq_false_iff_ne.2 fun e => hs e.symm
        clear hr hr1 hq hf hmay hkn ha a0 a1 hs h0 hO
        generalize L[j].2 = sz at *
        go_enter Try.func40, Try.ntmps40
        go_wp2_with (go_at_call 50; refine (CF.out _ HR.out).mono ?_; rintro e w1 ⟨rfl, q1⟩; have HQ1 := Lib.hid (HQ.out.trans q1); have a1 := HC.out _ q1; have x0 := ((HO.out.q q1).2 0 _ rfl).1; have x1 := ((HO.out.q q1).2 1 _ rfl).1; have x2 := ((HO.out.q q1).2 2 _ rfl).1)
        go_ret2
        exact ⟨by rw [HK.out.1, HK.out.2]; rfl, HQ1.out⟩
    · rw [if_neg (by decide)] at hkn
      obtain ⟨_, f, rfl, f1, f8⟩ := np_proj hmay rfl
      have g1 : decide ((1 : Int) ≤ (f : Int)) = true := decide_eq_true (by omega)
      by_cases hs : (f : Int) ≤ (L[j].2.size : Int)
      · have hw : IntKind.i64.wrap ((f : Int) - 1) = ((f - 1 : Nat) : Int) := by rw [IntWalk.i64_in _ (by omega)]; omega
        have HK : Hid (howK L (6, nm, (f : Int)) = L[j].2.extract (f - 1) f ∧ whyK L (6, nm, (f : Int)) = 0) := by
          unfold Hid howK whyK
          rw [if_neg h0, hkn, decide_eq_true hs, ha]
          refine ⟨?_, rfl⟩
          show L[j].2.extract ((f : Int) - 1).toNat (f : Int).toNat = _
          congr 1
          omega
        have e0 : decide ((f : Int) ≤ (L[j].2.size : Int)) = true := decide_eq_true hs
        have hs2 : f ≤ L[j].2.size := by omega
        have hcut := fun W => slice_str W L[j].2 (f - 1) f (by omega) (by omega) ((f : Int) - 1) (f : Int) (by omega) rfl
        clear hr hr1 hq hf hmay hkn ha a0 a1 hs h0 hO
        generalize L[j].2 = sz at *
        go_enter Try.func40, Try.ntmps40
        go_wp2_with (go_at_call 50; refine (CF.out _ HR.out).mono ?_; rintro e w1 ⟨rfl, q1⟩; have HQ1 := Lib.hid (HQ.out.trans q1); have a1 := HC.out _ q1; have x0 := ((HO.out.q q1).2 0 _ rfl).1; have x1 := ((HO.out.q q1).2 1 _ rfl).1; have x2 := ((HO.out.q q1).2 2 _ rfl).1)
        go_ret2
        exact ⟨by rw [HK.out.1, HK.out.2]; rfl, HQ1.out⟩
      · have HK : Hid (howK L (6, nm, (f : Int)) = ⟨#[]⟩ ∧ whyK L (6, nm, (f : Int)) = 5) := by
          unfold Hid howK whyK
          rw [if_neg h0, hkn, decide_eq_false hs]
          exact ⟨rfl, rfl⟩
        have e0 : decide ((f : Int) ≤ (L[j].2.size : Int)) = false := decide_eq_false hs
        have hs2 : ¬ f ≤ L[j].2.size := by omega
        clear hr hr1 hq hf hmay hkn ha a0 a1 hs h0 hO
        generalize L[j].2 = sz at *
        go_enter Try.func40, Try.ntmps40
        go_wp2_with (go_at_call 50; refine (CF.out _ HR.out).mono ?_; rintro e w1 ⟨rfl, q1⟩; have HQ1 := Lib.hid (HQ.out.trans q1); have a1 := HC.out _ q1; have x0 := ((HO.out.q q1).2 0 _ rfl).1; have x1 := ((HO.out.q q1).2 1 _ rfl).1; have x2 := ((HO.out.q q1).2 2 _ rfl).1)
        go_ret2
        exact ⟨by rw [HK.out.1, HK.out.2]; rfl, HQ1.out⟩

end Go.Proofs.Ytmohedkhbjeapaa.Ex
