/-
  Contract of package side: Check.
-/
import Derived.Test.YtmohedkhbjeapaaSideO
namespace Go.Proofs.Ytmohedkhbjeapaa.Ex
open Go.RowKit Kit Rw
open Go.Proofs.Ytmohedkhbjeapaa.Sg (Sig findI Row)

set_option maxRecDepth 100000 in
set_option maxHeartbeats 2000000 in
theorem sideCheck_any (A B : Option Addr) (m c n d : Nat) (L : List Sig) (l : List Tg) (x : Ex) (s : UInt8) (w : World) (hm : m = L.length) (hn : n = l.length) (hL : Row w w.heap.size A L) (hr : Rds w w.heap.size B (cellsG l)) (hl8 : L.length ≤ 1000) (hl : l.length ≤ 600) (hmay : ∀ t ∈ l, mayN t = true) (hs : runS [] l = some [x]) :
    Calls Try.prog 12 #[.slice A m c, .slice B n d, .int .u8 (s.toNat : Int)] w fun e w' => e = .returned (.tuple #[.int .i64 (checkF L l (x.sides L (side0 s)) 0).1, .int .i64 (checkF L l (x.sides L (side0 s)) 0).2]) ∧ Q w w' := by
  subst hm hn
  have hx : x.size = l.length := by
    have := run_sum (i := l.length) (by rw [List.take_length]; exact hs) (Nat.le_refl _)
    simpa [sumS] using this
  have HL := Lib.hid hL
  have HR := Lib.hid hr
  have HM := Lib.hid hmay
  have CO := Lib.hid (sideOf_full A B L.length c l.length d L l x s w rfl rfl hL hr hl8 hl hmay hs)
  have HFl : Hid ((x.sides L (side0 s)).length = l.length) := by unfold Hid; rw [sides_len]; exact hx
  clear hL hr hmay hs hx
  generalize x.sides L (side0 s) = F at *
  go_enter Try.func12, Try.ntmps12
  go_wp2_with (go_at_call 14; refine CO.out.mono ?_; rintro e w1 ⟨g, rfl, hO, hg, q1⟩; have HO := Lib.hid hO; have HQ1 := Lib.hid q1; clear hO hg q1)
  rw [HFl.out]
  go_loopw [16] (fun i wr => ∃ k : Nat, k ≤ l.length ∧ i = .int .i64 k ∧ Hid (checkF L l F 0 = checkF L (l.drop k) (F.drop k) k) ∧ Hid (Q w1 wr)) (fun i _ => l.length - (intOf i).toNat)
  case atStart => exact ⟨0, Nat.zero_le _, rfl, rfl, Q.refl _⟩
  case round =>
    obtain ⟨k, hk, rfl, HC, HQ⟩ := hrel
    by_cases hlt : k < l.length
    · have hq : Q w wr := HQ1.out.trans HQ.out
      obtain ⟨ad, hBe, hb, c0, c1, c2⟩ := tok_at (HR.out.q hq) hlt
      subst hBe
      have hFk : k < F.length := by rw [HFl.out]; exact hlt
      have hck := ((HO.out.q HQ.out).2 k _ (cells8_at (List.getElem?_eq_getElem hFk))).1
      have CK : Hid (Calls Try.prog 23 #[.slice A L.length c, .agg #[.int .i64 l[k].1, .string l[k].2.1, .int .i64 l[k].2.2], .int .u8 (F[k].toNat : Int)] wr fun e w' => e = .returned (.int .i64 (badN L l[k] F[k])) ∧ Q wr w') := fault_any A L.length c L l[k] F[k] wr rfl ((HL.out.q (Nat.le_refl _) hq).more hq.size) hl8 (HM.out l[k] (List.getElem_mem hlt))
      have hC := HC.out
      rw [checkF_at L l F k HFl.out hlt] at hC
      have hq2 := Lib.hid hq
      clear hq
      generalize hbad : badN L l[k] F[k] = bad at *
      by_cases h0 : bad = 0
      · have e0 : (bad == 0) = true := beq_iff_eq.2 h0
        rw [if_pos h0] at hC
        have HC2 := Lib.hid hC
        clear hC h0 hbad HC
        go_wp2_with (go_at_call 23; refine CK.out.mono ?_; rintro e w5 ⟨rfl, q5⟩; have HQ5 := Lib.hid (HQ.out.trans q5); clear q5)
        go_roundw
        case rel => exact ⟨k + 1, by omega, by go_num, HC2, HQ5⟩
        case measure => simp [intOf]; omega
      · have e0 : (bad == 0) = false := beq_eq_false_iff_ne.2 h0
        rw [if_neg h0] at hC
        have HC2 := Lib.hid hC
        clear hC h0 hbad HC
        go_wp2_with (go_at_call 23; refine CK.out.mono ?_; rintro e w5 ⟨rfl, q5⟩; have HQ5 := Lib.hid (hq2.out.trans q5); clear q5)
        go_ret2
        exact ⟨by rw [HC2.out]; rfl, HQ5.out⟩
    · have hke : k = l.length := by omega
      subst hke
      have HC2 : Hid (checkF L l F 0 = (0, 0)) := by
        have := HC.out
        rw [checkF_end L l F _ (Nat.le_refl _)] at this
        exact this
      have HQ5 := Lib.hid (HQ1.out.trans HQ.out)
      clear HC
      go_wp2_with fail
      go_ret2
      exact ⟨by rw [HC2.out]; rfl, HQ5.out⟩
end Go.Proofs.Ytmohedkhbjeapaa.Ex
