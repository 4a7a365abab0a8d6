/-
  Contract of the document's Check: the first node that may not be, and why.
-/
import Derived.Test.YtmohedkhbjeapaaRef8F
namespace Go.Proofs.Ytmohedkhbjeapaa.Ex
open Go.RowKit Kit Rw
open Go.Proofs.Ytmohedkhbjeapaa.Sg (Sig findI Row refFind_any)

/-- what is wrong with a node on a side; 0: nothing -/
def badN (L : List Sig) (n : Tg) (t : UInt8) : Int :=
  if (n.1 = 3 ∨ n.1 = 6) ∧ findI n.2.1 L 0 < 0 then 3 else if (n.1 = 3 ∨ n.1 = 6) ∧ knownB L n = false then 5
  else if n.1 = 4 ∧ t ≠ 76 ∨ (n.1 = 5 ∨ n.1 = 6) ∧ t ≠ 82 then 6 else 0
def checkF (L : List Sig) : List Tg → List UInt8 → Nat → Int × Int
  | n :: r, t :: T, i => if badN L n t = 0 then checkF L r T (i + 1) else (i, badN L n t)
  | _, _, _ => (0, 0)
theorem checkF_at (L : List Sig) (l : List Tg) (F : List UInt8) (k : Nat) (hl : F.length = l.length) (h : k < l.length) : checkF L (l.drop k) (F.drop k) k = if badN L l[k] (F[k]'(by omega)) = 0 then checkF L (l.drop (k + 1)) (F.drop (k + 1)) (k + 1) else (k, badN L l[k] (F[k]'(by omega))) := by
  rw [List.drop_eq_getElem_cons h, List.drop_eq_getElem_cons (show k < F.length by omega)]
  rfl
theorem checkF_end (L : List Sig) (l : List Tg) (F : List UInt8) (k : Nat) (h : l.length ≤ k) : checkF L (l.drop k) (F.drop k) k = (0, 0) := by
  rw [List.drop_of_length_le h]
  rfl

set_option maxRecDepth 100000 in
set_option maxHeartbeats 16000000 in
theorem refCheck_any (A B : Option Addr) (m c n d : Nat) (L : List Sig) (l : List Tg) (x : Ex) (s : UInt8) (w : World) (hm : m = L.length) (hn : n = l.length) (hL : Row w w.heap.size A L) (hr : Rds w w.heap.size B (cellsG l)) (hl8 : L.length ≤ 1000) (hl : l.length ≤ 600) (hmay : ∀ t ∈ l, mayN t = true) (hs : runS [] l = some [x]) :
    Calls Try.prog 13 #[.slice A m c, .slice B n d, .int .u8 (s.toNat : Int)] w fun e w' => e = .returned (.tuple #[.int .i64 (checkF L l (x.sides L (side0 s)) 0).1, .int .i64 (checkF L l (x.sides L (side0 s)) 0).2]) ∧ Q w w' := by
  subst hm hn
  have hx : x.size = l.length := by
    have := run_sum (i := l.length) (by rw [List.take_length]; exact hs) (Nat.le_refl _)
    simpa [sumS] using this
  have HL := Lib.hid hL
  have HR := Lib.hid hr
  have HM := Lib.hid hmay
  have CO := Lib.hid (refOf_any A B L.length c l.length d L l x s w rfl rfl hL hr hl8 hl hmay hs)
  have HFl : Hid ((x.sides L (side0 s)).length = l.length) := by unfold Hid; rw [sides_len]; exact hx
  clear hL hr hmay hs hx
  generalize x.sides L (side0 s) = F at *
  have CK := Lib.hid (fun (n : Tg) (W : World) (q : Q w W) => known_any A L.length c L n W rfl ((HL.out.q (Nat.le_refl _) q).more q.size) hl8)
  have CF := Lib.hid (fun (t : ByteArray) (W : World) (q : Q w W) => refFind_any A L.length c L t W rfl ((HL.out.q (Nat.le_refl _) q).more q.size) (by unfold maxLen; omega))
  go_enter Try.func13, Try.ntmps13
  go_wp2_with (go_at_call 15; refine CO.out.mono ?_; rintro e w1 ⟨g, rfl, hO, hg, q1⟩; have HO := Lib.hid hO; have HQ1 := Lib.hid q1; clear hO hg q1)
  rw [HFl.out]
  go_loopw [9] (fun i wr => ∃ k : Nat, k ≤ l.length ∧ i = .int .i64 k ∧ Hid (checkF L l F 0 = checkF L (l.drop k) (F.drop k) k) ∧ Hid (Q w1 wr)) (fun i _ => l.length - (intOf i).toNat)
  case atStart => exact ⟨0, Nat.zero_le _, rfl, rfl, Q.refl _⟩
  case round =>
    obtain ⟨k, hk, rfl, HC, HQ⟩ := hrel
    by_cases hlt : k < l.length
    · have hq : Q w wr := HQ1.out.trans HQ.out
      obtain ⟨ad, rfl, hb, c0, c1, c2⟩ := tok_at (HR.out.q hq) hlt
      have hFk : k < F.length := by rw [HFl.out]; exact hlt
      have hck := ((HO.out.q HQ.out).2 k _ (cells8_at (List.getElem?_eq_getElem hFk))).1
      have hglt := (HO.out.q HQ.out).1
      have hmk := HM.out l[k] (List.getElem_mem hlt)
      have hstep := checkF_at L l F k HFl.out hlt
      obtain ⟨⟨kd, nm, N⟩, hnn⟩ : ∃ n, n = l[k] := ⟨_, rfl⟩
      rw [← hnn] at c0 c1 c2 hmk hstep
      have hC := HC.out
      rw [hstep] at hC
      have e76 : ((F[k].toNat : Int) == 76) = decide (F[k] = 76) := byte_is F[k] 76 (by decide)
      have e82 : ((F[k].toNat : Int) == 82) = decide (F[k] = 82) := byte_is F[k] 82 (by decide)
      have n76 : ((F[k].toNat : Int) != 76) = !decide (F[k] = 76) := by rw [bne, e76]
      have n82 : ((F[k].toNat : Int) != 82) = !decide (F[k] = 82) := by rw [bne, e82]
      generalize hFt : F[k] = t at *
      have hkd := may_kinds hmk
      simp only at hkd
      have HQk := Lib.hid hq
      have hFl2 : F.length = l.length := HFl.out
      clear hnn hmk hstep HC hFt hFk hFl2
      have qa := (Q.refl wr).alloc (Obj.cells #[.int .i64 kd, .string nm, .int .i64 N] 38)
      have HA := Lib.hid (own_new8 wr [.int .i64 kd, .string nm, .int .i64 N] 38)
      have HQa := Lib.hid qa
      have hcka := (qa.cell (p := ⟨g, k, none⟩) hglt).trans hck
      have CK2 := Lib.hid (CK.out (kd, nm, N))
      have CF2 := Lib.hid (CF.out nm)
      have HH : Hid (∀ W, Q (wr.alloc (Obj.cells #[.int .i64 kd, .string nm, .int .i64 N] 38)) W → W.cell? ⟨wr.heap.size, 0, none⟩ = some (.int .i64 kd) ∧ W.cell? ⟨wr.heap.size, 1, none⟩ = some (.string nm) ∧ W.cell? ⟨wr.heap.size, 2, none⟩ = some (.int .i64 N) ∧ W.cell? ⟨g, k, none⟩ = some (.int .u8 (t.toNat : Int))) := fun W q =>
        ⟨((HA.out.q q).2 0 _ rfl).1, ((HA.out.q q).2 1 _ rfl).1, ((HA.out.q q).2 2 _ rfl).1, (q.cell (p := ⟨g, k, none⟩) (Nat.lt_of_lt_of_le hglt qa.size)).trans hcka⟩
      obtain ⟨h0, h1, h2, h3⟩ := HH.out _ (Q.refl _)
      clear qa hck hcka
      unfold badN at hC
      simp only at hC
      rcases hkd with rfl | rfl | rfl | rfl | rfl | rfl | rfl
      · have HC2 : Hid (checkF L l F 0 = checkF L (l.drop (k + 1)) (F.drop (k + 1)) (k + 1)) := Lib.hid (by simpa using hC)
        clear hC CK2 CF2 CK CF HH
        go_wp2_with fail
        go_roundw
        case rel => exact ⟨k + 1, by omega, by go_num, HC2, (HQ.out.trans HQa.out)⟩
        case measure => simp [intOf]; omega
      · have HC2 : Hid (checkF L l F 0 = checkF L (l.drop (k + 1)) (F.drop (k + 1)) (k + 1)) := Lib.hid (by simpa using hC)
        clear hC CK2 CF2 CK CF HH
        go_wp2_with fail
        go_roundw
        case rel => exact ⟨k + 1, by omega, by go_num, HC2, (HQ.out.trans HQa.out)⟩
        case measure => simp [intOf]; omega
      · have HC2 : Hid (checkF L l F 0 = checkF L (l.drop (k + 1)) (F.drop (k + 1)) (k + 1)) := Lib.hid (by simpa using hC)
        clear hC CK2 CF2 CK CF HH
        go_wp2_with fail
        go_roundw
        case rel => exact ⟨k + 1, by omega, by go_num, HC2, (HQ.out.trans HQa.out)⟩
        case measure => simp [intOf]; omega
      · rcases findI_cases nm L 0 with hf | ⟨j, hj, hf, _⟩
        · have HC2 : Hid (checkF L l F 0 = ((k : Int), 3)) := Lib.hid (by rw [hf] at hC; simpa using hC)
          rw [hf] at CF2
          clear hC CK CF hf
          go_wp2_with (first | (go_at_call 24; refine (CK2.out _ (HQk.out.trans HQa.out)).mono ?_; rintro e w2 ⟨rfl, q2⟩; have HQ2 := Lib.hid (HQa.out.trans q2); obtain ⟨y0, y1, y2, y3⟩ := HH.out _ q2) | (go_at_call 25; refine (CF2.out _ (HQk.out.trans HQ2.out)).mono ?_; rintro e w3 ⟨rfl, rfl⟩))
          go_ret2
          exact ⟨by rw [HC2.out]; rfl, HQk.out.trans HQ2.out⟩
        · rw [Nat.zero_add] at hf
          rw [hf] at CF2
          have hj0 : ¬ ((j : Int) < 0) := by omega
          have dj : decide ((j : Int) < 0) = false := decide_eq_false hj0
          rw [hf] at hC
          cases hkn : knownB L (3, nm, N)
          · rw [hkn] at hC CK2
            have HC2 : Hid (checkF L l F 0 = ((k : Int), 5)) := Lib.hid (by simpa [hj0] using hC)
            clear hC CK CF hf hkn hj0
            go_wp2_with (first | (go_at_call 24; refine (CK2.out _ (HQk.out.trans HQa.out)).mono ?_; rintro e w2 ⟨rfl, q2⟩; have HQ2 := Lib.hid (HQa.out.trans q2); obtain ⟨y0, y1, y2, y3⟩ := HH.out _ q2) | (go_at_call 25; refine (CF2.out _ (HQk.out.trans HQ2.out)).mono ?_; rintro e w3 ⟨rfl, rfl⟩))
            go_ret2
            exact ⟨by rw [HC2.out]; rfl, HQk.out.trans HQ2.out⟩
          · rw [hkn] at hC CK2
            have HC2 : Hid (checkF L l F 0 = checkF L (l.drop (k + 1)) (F.drop (k + 1)) (k + 1)) := Lib.hid (by simpa [hj0] using hC)
            clear hC CK CF hf hkn hj0
            go_wp2_with (first | (go_at_call 24; refine (CK2.out _ (HQk.out.trans HQa.out)).mono ?_; rintro e w2 ⟨rfl, q2⟩; have HQ2 := Lib.hid (HQa.out.trans q2); obtain ⟨y0, y1, y2, y3⟩ := HH.out _ q2) | (go_at_call 25; refine (CF2.out _ (HQk.out.trans HQ2.out)).mono ?_; rintro e w3 ⟨rfl, rfl⟩))
            go_roundw
            case rel => exact ⟨k + 1, by omega, by go_num, HC2, HQ.out.trans HQ2.out⟩
            case measure => simp [intOf]; omega
      · by_cases h8 : t = 76
        · have HC2 : Hid (checkF L l F 0 = checkF L (l.drop (k + 1)) (F.drop (k + 1)) (k + 1)) := Lib.hid (by simpa [h8] using hC)
          rw [decide_eq_true h8] at e76 n76
          clear hC CK CF CK2 CF2 HH h8 e82 n82
          go_wp2_with fail
          go_roundw
          case rel => exact ⟨k + 1, by omega, by go_num, HC2, (HQ.out.trans HQa.out)⟩
          case measure => simp [intOf]; omega
        · have HC2 : Hid (checkF L l F 0 = ((k : Int), 6)) := Lib.hid (by simpa [h8] using hC)
          rw [decide_eq_false h8] at e76 n76
          clear hC CK CF CK2 CF2 HH h8 e82 n82
          go_wp2_with fail
          go_ret2
          exact ⟨by rw [HC2.out]; rfl, HQk.out.trans HQa.out⟩
      · by_cases h8 : t = 82
        · have HC2 : Hid (checkF L l F 0 = checkF L (l.drop (k + 1)) (F.drop (k + 1)) (k + 1)) := Lib.hid (by simpa [h8] using hC)
          rw [decide_eq_true h8] at e82 n82
          clear hC CK CF CK2 CF2 HH h8 e76 n76
          go_wp2_with fail
          go_roundw
          case rel => exact ⟨k + 1, by omega, by go_num, HC2, (HQ.out.trans HQa.out)⟩
          case measure => simp [intOf]; omega
        · have HC2 : Hid (checkF L l F 0 = ((k : Int), 6)) := Lib.hid (by simpa [h8] using hC)
          rw [decide_eq_false h8] at e82 n82
          clear hC CK CF CK2 CF2 HH h8 e76 n76
          go_wp2_with fail
          go_ret2
          exact ⟨by rw [HC2.out]; rfl, HQk.out.trans HQa.out⟩
      · rcases findI_cases nm L 0 with hf | ⟨j, hj, hf, _⟩
        · have HC2 : Hid (checkF L l F 0 = ((k : Int), 3)) := Lib.hid (by rw [hf] at hC; simpa using hC)
          rw [hf] at CF2
          clear hC CK CF hf
          go_wp2_with (first | (go_at_call 24; refine (CK2.out _ (HQk.out.trans HQa.out)).mono ?_; rintro e w2 ⟨rfl, q2⟩; have HQ2 := Lib.hid (HQa.out.trans q2); obtain ⟨y0, y1, y2, y3⟩ := HH.out _ q2) | (go_at_call 25; refine (CF2.out _ (HQk.out.trans HQ2.out)).mono ?_; rintro e w3 ⟨rfl, rfl⟩))
          go_ret2
          exact ⟨by rw [HC2.out]; rfl, HQk.out.trans HQ2.out⟩
        · rw [Nat.zero_add] at hf
          rw [hf] at CF2
          have hj0 : ¬ ((j : Int) < 0) := by omega
          have dj : decide ((j : Int) < 0) = false := decide_eq_false hj0
          rw [hf] at hC
          cases hkn : knownB L (6, nm, N)
          · rw [hkn] at hC CK2
            have HC2 : Hid (checkF L l F 0 = ((k : Int), 5)) := Lib.hid (by simpa [hj0] using hC)
            clear hC CK CF hf hkn hj0
            go_wp2_with (first | (go_at_call 24; refine (CK2.out _ (HQk.out.trans HQa.out)).mono ?_; rintro e w2 ⟨rfl, q2⟩; have HQ2 := Lib.hid (HQa.out.trans q2); obtain ⟨y0, y1, y2, y3⟩ := HH.out _ q2) | (go_at_call 25; refine (CF2.out _ (HQk.out.trans HQ2.out)).mono ?_; rintro e w3 ⟨rfl, rfl⟩))
            go_ret2
            exact ⟨by rw [HC2.out]; rfl, HQk.out.trans HQ2.out⟩
          · rw [hkn] at hC CK2
            by_cases h8 : t = 82
            · have HC2 : Hid (checkF L l F 0 = checkF L (l.drop (k + 1)) (F.drop (k + 1)) (k + 1)) := Lib.hid (by simpa [hj0, h8] using hC)
              rw [decide_eq_true h8] at e82 n82
              clear hC CK CF hf hkn hj0 h8 e76 n76
              go_wp2_with (first | (go_at_call 24; refine (CK2.out _ (HQk.out.trans HQa.out)).mono ?_; rintro e w2 ⟨rfl, q2⟩; have HQ2 := Lib.hid (HQa.out.trans q2); obtain ⟨y0, y1, y2, y3⟩ := HH.out _ q2) | (go_at_call 25; refine (CF2.out _ (HQk.out.trans HQ2.out)).mono ?_; rintro e w3 ⟨rfl, rfl⟩))
              go_roundw
              case rel => exact ⟨k + 1, by omega, by go_num, HC2, HQ.out.trans HQ2.out⟩
              case measure => simp [intOf]; omega
            · have HC2 : Hid (checkF L l F 0 = ((k : Int), 6)) := Lib.hid (by simpa [hj0, h8] using hC)
              rw [decide_eq_false h8] at e82 n82
              clear hC CK CF hf hkn hj0 h8 e76 n76
              go_wp2_with (first | (go_at_call 24; refine (CK2.out _ (HQk.out.trans HQa.out)).mono ?_; rintro e w2 ⟨rfl, q2⟩; have HQ2 := Lib.hid (HQa.out.trans q2); obtain ⟨y0, y1, y2, y3⟩ := HH.out _ q2) | (go_at_call 25; refine (CF2.out _ (HQk.out.trans HQ2.out)).mono ?_; rintro e w3 ⟨rfl, rfl⟩))
              go_ret2
              exact ⟨by rw [HC2.out]; rfl, HQk.out.trans HQ2.out⟩
    · have HC2 : Hid (checkF L l F 0 = (0, 0)) := by
        have hC := HC.out
        rwa [checkF_end L l F k (by omega)] at hC
      clear HC CK CF
      go_wp2_with fail
      go_ret2
      exact ⟨by rw [HC2.out]; rfl, HQ1.out.trans HQ.out⟩
end Go.Proofs.Ytmohedkhbjeapaa.Ex
