/-
  Contract of the document's Right.
-/
import Derived.Test.YtmohedkhbjeapaaRef7G
namespace Go.Proofs.Ytmohedkhbjeapaa.Ex
open Go.RowKit Kit Rw Nm

/-- a row is right -/
def rightB (l : List Tg) : Bool := match countN 0 l with
  | some 1 => okL 0 (textAt l (l.length - 1))
  | _ => false
theorem right_none {l : List Tg} (h : countN 0 l ≠ some 1) : rightB l = false := by
  unfold rightB
  split
  · rename_i h1; exact absurd h1 h
  · rfl

theorem u8_40 (b : UInt8) : b = 40 ↔ (b.toNat : Int) = 40 := by
  rw [← UInt8.toNat_inj]; constructor <;> intro h
  · rw [h]; rfl
  · have : b.toNat = 40 := by omega
    rw [this]; rfl
theorem u8_41 (b : UInt8) : b = 41 ↔ (b.toNat : Int) = 41 := by
  rw [← UInt8.toNat_inj]; constructor <;> intro h
  · rw [h]; rfl
  · have : b.toNat = 41 := by omega
    rw [this]; rfl

set_option maxRecDepth 100000 in
set_option maxHeartbeats 4000000 in
theorem right7_any (A : Option Addr) (n c : Nat) (l : List Tg) (w : World) (hn : n = l.length) (hr : Rds w w.heap.size A (cellsG l)) (hf : total7 l ≤ 600) :
    Calls Try.prog 21 #[.slice A n c] w fun e w' => e = .returned (.bool (rightB l)) ∧ Q w w' := by
  subst hn
  have HR := Lib.hid hr
  have hl : l.length ≤ 600 := Nat.le_trans (total7_ge l) hf
  have HF := Lib.hid hf
  clear hr hf
  go_enter Try.func21, Try.ntmps21
  go_wp2_with fail
  go_loopw [3, 4] (fun many i wr => ∃ (k m : Nat), k ≤ l.length ∧ m ≤ k ∧ i = .int .i64 k ∧ many = .int .i64 m ∧ Hid (countN 0 l = countN m (l.drop k)) ∧ Hid (Q w wr)) (fun _ i _ => l.length - (intOf i).toNat)
  case atStart => exact ⟨0, 0, Nat.zero_le _, Nat.le_refl _, rfl, rfl, Lib.hid (by simp), Lib.hid (Q.refl w)⟩
  case round =>
    obtain ⟨k, m, hk, hmk, rfl, rfl, HC, HQ⟩ := hrel
    by_cases hlt : k < l.length
    · obtain ⟨ad, rfl, hb, c0, c1, c2⟩ := tok_at (HR.out.q HQ.out) hlt
      have HN := Lib.hid (count_at l k m hlt)
      have HPN := Lib.hid (fun hh : mayN l[k] = true => parts_nat hh)
      have CM := Lib.hid (fun W : World => may_any l[k].1 l[k].2.1 l[k].2.2 W)
      have CP := Lib.hid (fun W : World => parts_any l[k].1 l[k].2.1 l[k].2.2 W)
      have CQ : ∀ W : World, Q wr W → W.cell? (ad.add (k * 3)) = some (.int .i64 l[k].1) ∧ W.cell? ⟨(ad.add (k * 3)).block, (ad.add (k * 3)).off + 1, none⟩ = some (.string l[k].2.1) ∧ W.cell? ⟨(ad.add (k * 3)).block, (ad.add (k * 3)).off + 2, none⟩ = some (.int .i64 l[k].2.2) := fun W q => by
        obtain ⟨ad', e, _, d0, d1, d2⟩ := tok_at (HR.out.q (HQ.out.trans q)) hlt
        injection e with e
        subst e
        exact ⟨d0, d1, d2⟩
      have HCQ := Lib.hid CQ
      clear CQ
      change Hid (∀ W : World, Calls Try.prog 36 #[.agg #[.int .i64 l[k].1, .string l[k].2.1, .int .i64 l[k].2.2]] W fun e w' => e = .returned (.bool (mayN l[k])) ∧ Q W w') at CM
      change Hid (∀ W : World, Calls Try.prog 35 #[.agg #[.int .i64 l[k].1, .string l[k].2.1, .int .i64 l[k].2.2]] W fun e w' => e = .returned (.int .i64 (partsN l[k])) ∧ Q W w') at CP
      cases hm : mayN l[k]
      · rw [hm] at CM HN
        have HE : Hid (rightB l = false) := Lib.hid (right_none (by rw [HC.out, HN.out]; simp))
        clear hm
        go_wp2_with (go_at_call 36; refine (CM.out _).mono ?_; rintro e w1 ⟨rfl, q1⟩; have HQ1 := Lib.hid (HQ.out.trans q1); clear q1)
        go_ret
        exact ⟨by rw [HE.out]; rfl, HQ1.out⟩
      · obtain ⟨hpn, hp8⟩ := HPN.out hm
        rw [hm] at CM HN
        rw [hpn] at CP
        generalize np l[k] = p at *
        clear hm hpn HPN
        by_cases hpm : p ≤ m
        · have d0 : decide ((m : Int) < (p : Int)) = false := decide_eq_false (by omega)
          have e1 : (m : Int) - (p : Int) + 1 = ((m - p + 1 : Nat) : Int) := by omega
          have HC' : Hid (countN 0 l = countN (m - p + 1) (l.drop (k + 1))) := by unfold Hid; rw [HC.out, HN.out, if_pos ⟨rfl, hpm⟩]
          clear HN HC
          go_wp2_with (first
            | (go_at_call 36; refine (CM.out _).mono ?_; rintro e w1 ⟨rfl, q1⟩; have HQ1 := Lib.hid q1; obtain ⟨y0, y1, y2⟩ := HCQ.out _ q1; clear q1)
            | (go_at_call 35; refine (CP.out _).mono ?_; rintro e w2 ⟨rfl, q2⟩; have HQ2 := Lib.hid (HQ1.out.trans q2); obtain ⟨z0, z1, z2⟩ := HCQ.out _ (HQ1.out.trans q2); clear q2)
            | (go_at_call 35; refine (CP.out _).mono ?_; rintro e w3 ⟨rfl, q3⟩; have HQ3 := Lib.hid (HQ.out.trans (HQ2.out.trans q3)); clear q3))
          go_roundw
          case rel => exact ⟨k + 1, m - p + 1, by omega, by omega, by go_num, by go_num, HC', HQ3⟩
          case measure => simp [intOf]; omega
        · have d0 : decide ((m : Int) < (p : Int)) = true := decide_eq_true (by omega)
          have HE : Hid (rightB l = false) := Lib.hid (right_none (by rw [HC.out, HN.out, if_neg (by rintro ⟨_, h⟩; exact hpm h)]; simp))
          clear HN HC
          go_wp2_with (first
            | (go_at_call 36; refine (CM.out _).mono ?_; rintro e w1 ⟨rfl, q1⟩; have HQ1 := Lib.hid q1; obtain ⟨y0, y1, y2⟩ := HCQ.out _ q1; clear q1)
            | (go_at_call 35; refine (CP.out _).mono ?_; rintro e w2 ⟨rfl, q2⟩; have HQ2 := Lib.hid (HQ1.out.trans q2); clear q2))
          go_ret
          exact ⟨by rw [HE.out]; rfl, HQ.out.trans HQ2.out⟩
    · obtain rfl : k = l.length := by omega
      have HN := Lib.hid (count_end l l.length m (Nat.le_refl _))
      by_cases h1 : m = 1
      · subst h1
        have hcn : countN 0 l = some 1 := by rw [HC.out, HN.out]
        obtain ⟨hmay, st, hrun, _⟩ := count_run l [] 1 hcn
        have hpos : 0 < l.length := by
          cases l with
          | nil => simp [countN] at hcn
          | cons a l => simp
        have hg := good_of HF.out hpos hmay hrun
        have CT := Lib.hid (fun (W : World) (q : Q w W) => text7_any A l.length c l st W rfl (HR.out.q q) hg)
        have HE : Hid (rightB l = okL 0 (textAt l (l.length - 1))) := by unfold Hid rightB; rw [hcn]; rfl
        have htl := hg.text (l.length - 1) (by omega)
        clear hcn hmay hrun hpos hg HC HN
        generalize textAt l (l.length - 1) = T at *
        obtain ⟨s, hs⟩ : ∃ s : ByteArray, s = bs T := ⟨_, rfl⟩
        have hsT : s.data.toList = T := by rw [hs, bs_list]
        rw [← hs] at CT
        have hsz : s.size ≤ 20000 := by rw [hs, bs_size]; exact htl
        subst hsT
        clear hs htl
        go_wp2_with (go_at_call 37; refine (CT.out _ HQ.out).mono ?_; rintro e w1 ⟨rfl, q1⟩; have HQ1 := Lib.hid (HQ.out.trans q1); clear q1)
        clear CT
        go_loopw [7, 8] (fun open_ i wr => ∃ (k : Nat) (o : Int), k ≤ s.size ∧ i = .int .i64 k ∧ open_ = .int .i64 o ∧ -k ≤ o ∧ o ≤ 40 ∧ Hid (okL 0 s.data.toList = okL o (s.data.toList.drop k)) ∧ wr = w1) (fun _ i _ => s.size - (intOf i).toNat)
        case atStart => exact ⟨0, 0, Nat.zero_le _, rfl, rfl, by omega, by omega, Lib.hid (by simp), rfl⟩
        case round =>
          obtain ⟨k, o, hk, rfl, rfl, ho1, ho2, HO, rfl⟩ := hrel
          by_cases hlt : k < s.size
          · have HS := Lib.hid (okL_at s.data.toList k o (by simpa using hlt))
            have HB : Hid (s.data.toList[k]'(by simpa using hlt) = s[k]) := rfl
            rw [HB.out] at HS
            by_cases hA : s[k] = 40
            · have hA' := (u8_40 s[k]).1 hA
              have hst : stepO o s[k] = o + 1 := by unfold stepO; rw [if_pos hA]
              rw [hst] at HS
              have d40 : ((s[k].toNat : Int) == 40) = true := by rw [hA']; rfl
              have d41 : ((s[k].toNat : Int) == 41) = false := by rw [hA']; rfl
              clear hst
              by_cases h40 : 40 < o + 1
              · have HS' : Hid (okL o (s.data.toList.drop k) = false) := by unfold Hid; rw [HS.out, if_pos h40]
                have d : decide (40 < o + 1) = true := decide_eq_true h40
                clear HS
                go_wp2_with fail
                go_ret
                exact ⟨by rw [HE.out, HO.out, HS'.out]; rfl, HQ1.out⟩
              · have HS' : Hid (okL o (s.data.toList.drop k) = okL (o + 1) (s.data.toList.drop (k + 1))) := by unfold Hid; rw [HS.out, if_neg h40]
                have d : decide (40 < o + 1) = false := decide_eq_false h40
                clear HS
                go_wp2_with fail
                go_roundw
                case rel => exact ⟨k + 1, o + 1, by omega, by go_num, rfl, by omega, by omega, Lib.hid (HO.out.trans HS'.out), by trivial⟩
                case measure => simp [intOf]; omega
            · by_cases hB : s[k] = 41
              · have hB' := (u8_41 s[k]).1 hB
                have hst : stepO o s[k] = o - 1 := by unfold stepO; rw [if_neg hA, if_pos hB]
                rw [hst] at HS
                have d40 : ((s[k].toNat : Int) == 40) = false := by rw [hB']; rfl
                have d41 : ((s[k].toNat : Int) == 41) = true := by rw [hB']; rfl
                clear hst
                by_cases h40 : 40 < o - 1
                · have HS' : Hid (okL o (s.data.toList.drop k) = false) := by unfold Hid; rw [HS.out, if_pos h40]
                  have d : decide (40 < o - 1) = true := decide_eq_true h40
                  clear HS
                  go_wp2_with fail
                  go_ret
                  exact ⟨by rw [HE.out, HO.out, HS'.out]; rfl, HQ1.out⟩
                · have HS' : Hid (okL o (s.data.toList.drop k) = okL (o - 1) (s.data.toList.drop (k + 1))) := by unfold Hid; rw [HS.out, if_neg h40]
                  have d : decide (40 < o - 1) = false := decide_eq_false h40
                  clear HS
                  go_wp2_with fail
                  go_roundw
                  case rel => exact ⟨k + 1, o - 1, by omega, by go_num, rfl, by omega, by omega, Lib.hid (HO.out.trans HS'.out), by trivial⟩
                  case measure => simp [intOf]; omega
              · have hA' : ((s[k].toNat : Int) = 40) → False := fun e => hA ((u8_40 s[k]).2 e)
                have hB' : ((s[k].toNat : Int) = 41) → False := fun e => hB ((u8_41 s[k]).2 e)
                have hst : stepO o s[k] = o := by unfold stepO; rw [if_neg hA, if_neg hB]
                rw [hst] at HS
                have d40 : ((s[k].toNat : Int) == 40) = false := beq_eq_false_iff_ne.2 hA'
                have d41 : ((s[k].toNat : Int) == 41) = false := beq_eq_false_iff_ne.2 hB'
                clear hst
                by_cases h40 : 40 < o
                · have HS' : Hid (okL o (s.data.toList.drop k) = false) := by unfold Hid; rw [HS.out, if_pos h40]
                  have d : decide (40 < o) = true := decide_eq_true h40
                  clear HS
                  go_wp2_with fail
                  go_ret
                  exact ⟨by rw [HE.out, HO.out, HS'.out]; rfl, HQ1.out⟩
                · have HS' : Hid (okL o (s.data.toList.drop k) = okL (o) (s.data.toList.drop (k + 1))) := by unfold Hid; rw [HS.out, if_neg h40]
                  have d : decide (40 < o) = false := decide_eq_false h40
                  clear HS
                  go_wp2_with fail
                  go_roundw
                  case rel => exact ⟨k + 1, o, by omega, by go_num, rfl, by omega, by omega, Lib.hid (HO.out.trans HS'.out), by trivial⟩
                  case measure => simp [intOf]; omega
          · have HS := Lib.hid (okL_end s.data.toList k o (by simp; omega))
            go_wp2_with fail
            go_ret
            exact ⟨by rw [HE.out, HO.out, HS.out]; rfl, HQ1.out⟩
      · have d0 : ((m : Int) != 1) = true := by simp; omega
        have HE : Hid (rightB l = false) := Lib.hid (right_none (by rw [HC.out, HN.out]; simpa using h1))
        clear h1
        go_wp2_with fail
        go_ret
        exact ⟨by rw [HE.out]; rfl, HQ.out⟩
end Go.Proofs.Ytmohedkhbjeapaa.Ex
