/-
  What the proofs lean on, part 13 of 20.
-/
import Derived.Test.YtnifmfdlocgefaaGreatPf
import Derived.Test.YtnifmfdlocgefaaGreatPl
import Derived.Shelf.Sort.Plain
import Derived.Shelf.Slices.Reverse
import Derived.Ground.Names2Prog
import Derived.Shelf.Slices.CompactI
import Derived.Shelf.Slices.In.SortNone
import Derived.Test.YtnifmfdlocgefaaGreatProg
import Derived.Lib.RowBridge
import Derived.Maps.AppendAt
namespace Go.Proofs.YtnifmfdlocgefaaGreat.Cy
open Go Go.RowKit Kit Uf Ig Tr
open Go.Proofs.YtnifmfdlocgefaaGreat.Hs (Keys Ints BoxT)
open Go.Proofs.YtnifmfdlocgefaaGreat.Tm (Tm termAt of_any Box4)
theorem there13 (m : Nat) (r b2 b3 b4 b5 : Value) (Av : Option Addr) (cv : Nat) (v : Int) (w : World) :
    Calls Tryz.prog 70 #[.agg #[r, .slice Av m cv, b2, b3, b4, b5], .int .i64 v] w fun e w' => e = .returned (.bool (decide (0 ≤ v) && decide (v < (m : Int)))) ∧ Q w w' := by
  have HG := Lib.hid (Box6.new w r (.slice Av m cv) b2 b3 b4 b5 31)
  have q0 := (Q.refl w).alloc (Obj.cells #[r, .slice Av m cv, b2, b3, b4, b5] 31)
  have g1 := HG.out.c1
  go_enter Tryz.func70, Tryz.ntmps70
  go_wp2_with (go_at_call 140; refine (place13 _ _ _).mono ?_; rintro e w' ⟨rfl, rfl⟩)
  go_ret
  exact ⟨rfl, q0⟩
/-- k of the first ones' row are laid -/
def laidF (ks : List (List Int)) (V : List Int) (k : Nat) : List Int := (firstsRow ks V).take k ++ List.replicate (ks.length - k) 0
theorem laidF_len {ks : List (List Int)} {V : List Int} {k : Nat} (h : k ≤ ks.length) : (laidF ks V k).length = ks.length := by
  unfold laidF; rw [List.length_append, List.length_take, firstsRow_len, List.length_replicate]; omega
theorem laidF_set {ks : List (List Int)} {V : List Int} {k : Nat} (h : k < ks.length) : (laidF ks V k).set k (firstV ks V (k : Int)) = laidF ks V (k + 1) := by
  unfold laidF
  have h1 : ((firstsRow ks V).take k).length = k := by rw [List.length_take, firstsRow_len]; omega
  rw [List.set_append_right _ _ (by omega), h1, Nat.sub_self, show ks.length - k = (ks.length - (k + 1)) + 1 by omega, List.replicate_succ, List.set_cons_zero, List.take_succ_eq_append_getElem (by rw [firstsRow_len]; exact h), firstsRow_at h, List.append_assoc]
  rfl
/-- the row of first ones, in the call's own memory -/
def FPost (l : List Int) (w : World) (e : Ending) (w' : World) : Prop := ∃ g, e = .returned (.slice (some ⟨g, 0, none⟩) l.length l.length) ∧ w.heap.size ≤ g ∧ OwnC w' g (cellsI l) ∧ Q w w'

set_option maxRecDepth 100000 in
set_option maxHeartbeats 4000000 in
theorem firstsOf_any (R : List Int) (c : Cells) (A S F Av D E Pa Ta : Option Addr) (n ca ms d nr cr k1 k2 k3 np kp nt kt : Nat) (ks : List (List Int)) (w : World) (hn : n = ks.length) (hk : Keys w w.heap.size A ks) (hkey : ∀ k ∈ ks, k.length ≤ 100000) (hl : ks.length ≤ 1000000) (h : Rd w c Av k1 D k2 E k3) (hC : Cl R c.V) (hlv : c.V.length ≤ 1000000) :
    Calls Tryz.prog 135 #[.agg #[.slice A n ca, .slice S ms d], .agg #[.slice F nr cr, .slice Av c.V.length k1, .slice D c.N.length k2, .slice E c.M.length k3, .slice Pa np kp, .slice Ta nt kt]] w (FPost (firstsRow ks c.V) w) := by
  subst hn
  have q0 := ((Q.refl w).alloc (Obj.cells #[.slice A ks.length ca, .slice S ms d] 26)).alloc (Obj.cells #[.slice F nr cr, .slice Av c.V.length k1, .slice D c.N.length k2, .slice E c.M.length k3, .slice Pa np kp, .slice Ta nt kt] 31)
  have HBa := Lib.hid ((BoxT.new w (.slice A ks.length ca) (.slice S ms d) 26).q ((Q.refl _).alloc (Obj.cells #[.slice F nr cr, .slice Av c.V.length k1, .slice D c.N.length k2, .slice E c.M.length k3, .slice Pa np kp, .slice Ta nt kt] 31)))
  have X := Box6.new (w.alloc (Obj.cells #[.slice A ks.length ca, .slice S ms d] 26)) (.slice F nr cr) (.slice Av c.V.length k1) (.slice D c.N.length k2) (.slice E c.M.length k3) (.slice Pa np kp) (.slice Ta nt kt) 31
  rw [World.size_alloc] at X
  have HBg := Lib.hid X
  have HQ0 := Lib.hid q0
  have HZ : Hid (((w.alloc (Obj.cells #[.slice A ks.length ca, .slice S ms d] 26)).alloc (Obj.cells #[.slice F nr cr, .slice Av c.V.length k1, .slice D c.N.length k2, .slice E c.M.length k3, .slice Pa np kp, .slice Ta nt kt] 31)).heap.size = w.heap.size + 2) := by unfold Hid; simp
  have HM := Lib.hid (fun (u : World) => make_ints ks.length (by omega) u)
  have CO : Hid (∀ (id : Int) (U : World), Q w U → Calls Tryz.prog 167 #[.agg #[.slice A ks.length ca, .slice S ms d], .int .i64 id] U fun e w' => ∃ At ct', e = .returned (.tuple #[.agg #[.int .i64 ((termAt ks id).getD Tm.none).k, .int .i64 ((termAt ks id).getD Tm.none).s, .int .i64 ((termAt ks id).getD Tm.none).p, .slice At ((termAt ks id).getD Tm.none).xs.length ct'], .bool (termAt ks id).isSome]) ∧ Q U w') := fun id U q => by
    refine (of_any A S _ ca ms d ks id U rfl ((hk.q (Nat.le_refl _) q).more q.size) hkey).mono ?_
    rintro e w' ⟨At, nt, ct', rfl, rfl, _, q1⟩
    exact ⟨At, ct', rfl, q1⟩
  have CF : Hid (∀ (z : Nat) (U : World), z < c.V.length → Q w U → Calls Tryz.prog 65 #[.agg #[.slice Av c.V.length k1, .slice D c.N.length k2, .slice E c.M.length k3], .int .i64 (z : Int)] U fun e w' => e = .returned (.int .i64 (fst c.V z : Int)) ∧ Q U w') := fun z U hz q => find_any R c z Av D E _ k1 _ k2 _ k3 U rfl rfl rfl (h.q q) hC hz hlv
  clear hk hkey h hC X q0
  go_enter Tryz.func135, Tryz.ntmps135
  go_upto_region 1 with fail
  generalize (w.alloc (Obj.cells #[.slice A ks.length ca, .slice S ms d] 26)).alloc (Obj.cells #[.slice F nr cr, .slice Av c.V.length k1, .slice D c.N.length k2, .slice E c.M.length k3, .slice Pa np kp, .slice Ta nt kt] 31) = W0 at *
  have b0 := HBa.out.c0
  have hm := HM.out W0
  go_wp2_with fail
  have HO0 : Hid (OwnC (W0.alloc (.cells (madeCells #[.int .i64 0] ks.length) 3)) W0.heap.size (cellsI (laidF ks c.V 0))) := by
    have := own_made W0 ks.length 3
    unfold Hid laidF
    simpa using this
  have qm := (Q.refl W0).alloc (.cells (madeCells #[.int .i64 0] ks.length) 3)
  have HBa1 := Lib.hid (HBa.out.q qm)
  have HBg1 := Lib.hid (HBg.out.q qm)
  have HQm := Lib.hid (HQ0.out.trans qm)
  clear b0 hm qm HBa HBg HM
  generalize W0.alloc (.cells (madeCells #[.int .i64 0] ks.length) 3) = W1 at *
  obtain ⟨g, hg⟩ : ∃ g, g = W0.heap.size := ⟨_, rfl⟩
  rw [← hg] at HO0 ⊢
  have HG : Hid (w.heap.size + 2 ≤ g) := by have h1 := HZ.out; unfold Hid; omega
  clear hg HZ
  go_loopw [15] (fun i wr => ∃ k : Nat, k ≤ ks.length ∧ i = .int .i64 k ∧ Hid (OwnC wr g (cellsI (laidF ks c.V k))) ∧ Hid (BoxT wr w.heap.size (.slice A ks.length ca) (.slice S ms d)) ∧ Hid (Box6 wr (w.heap.size + 1) (.slice F nr cr) (.slice Av c.V.length k1) (.slice D c.N.length k2) (.slice E c.M.length k3) (.slice Pa np kp) (.slice Ta nt kt)) ∧ Hid (Q w wr)) (fun i _ => ks.length - (intOf i).toNat)
  case atStart => exact ⟨0, Nat.zero_le _, rfl, HO0, HBa1, HBg1, HQm⟩
  case round =>
    clear HO0 HBa1 HBg1 HQm
    obtain ⟨k, hkl, rfl, HO, HBa, HBg, HQw⟩ := hrel
    by_cases hlt : k < ks.length
    · have d1 : decide ((k : Int) < (ks.length : Int)) = true := decide_eq_true (by omega)
      have d2 : decide (k < ks.length) = true := decide_eq_true hlt
      have j1 : (k : Int) < (ks.length : Int) := by omega
      have j2 : (0 : Int) ≤ (k : Int) := Int.natCast_nonneg _
      have hkc : k < (cellsI (laidF ks c.V k)).length := by rw [cellsI_len, laidF_len (Nat.le_of_lt hlt)]; exact hlt
      obtain ⟨x0, f0⟩ := HO.out.2 k _ (List.getElem?_eq_getElem hkc)
      have HO1 := Lib.hid (HO.out.set hkc (.int .i64 (-1)))
      rw [← cellsI_set] at HO1
      have gr := setCell_grown wr g k (.int .i64 (-1))
      have HBa1 := Lib.hid (boxT_far HBa.out gr (by have := HG.out; omega))
      have HBg1 := Lib.hid (HBg.out.grown gr (by have := HG.out; omega))
      have HQ1 := Lib.hid (grown_q gr HQw.out (by have := HG.out; omega))
      have HST := Lib.hid (laidF_set (V := c.V) hlt)
      clear gr
      go_upto_region 6 with fail
      clear x0 f0 hkc HO HBa HBg HQw
      generalize wr.setCell ⟨g, k, none⟩ (.int .i64 (-1)) = W2 at *
      have b0 := HBa1.out.c0
      have b1 := HBa1.out.c1
      have C := Lib.hid (CO.out (k : Int) W2 HQ1.out)
      have HND := Lib.hid (numV_def ks c.V.length (k : Int))
      have HFD : Hid (firstV ks c.V (k : Int) = if numV ks c.V.length (k : Int) < 0 then -1 else (fst c.V (numV ks c.V.length (k : Int)).toNat : Int)) := rfl
      go_upto_region 7 with (go_at_call 167; refine C.out.mono ?_; rintro e w3 ⟨At, ct', rfl, q3⟩; have Hq3 := Lib.hid q3; clear q3)
      clear C b0 b1
      generalize (termAt ks (k : Int)).isSome = is at *
      generalize (termAt ks (k : Int)).getD Tm.none = t at *
      have HT4 := Lib.hid (Box4.new w3 (.int .i64 t.k) (.int .i64 t.s) (.int .i64 t.p) (.slice At t.xs.length ct') 175)
      have HQT := Lib.hid (Hq3.out.alloc (Obj.cells #[.int .i64 t.k, .int .i64 t.s, .int .i64 t.p, .slice At t.xs.length ct'] 175))
      have HGq := Lib.hid (HBg1.out.q HQT.out)
      obtain ⟨tb, htb⟩ : ∃ tb, tb = w3.heap.size := ⟨_, rfl⟩
      rw [← htb] at HT4 ⊢
      generalize w3.alloc (Obj.cells #[.int .i64 t.k, .int .i64 t.s, .int .i64 t.p, .slice At t.xs.length ct'] 175) = W4 at *
      have ALL : Hid (∀ U, Q W4 U → U.cell? ⟨tb, 0, none⟩ = some (.int .i64 t.k) ∧ U.cell? ⟨tb, 1, none⟩ = some (.int .i64 t.s) ∧ U.cell? ⟨w.heap.size + 1, 0, none⟩ = some (.slice F nr cr) ∧ U.cell? ⟨w.heap.size + 1, 1, none⟩ = some (.slice Av c.V.length k1) ∧ U.cell? ⟨w.heap.size + 1, 2, none⟩ = some (.slice D c.N.length k2) ∧ U.cell? ⟨w.heap.size + 1, 3, none⟩ = some (.slice E c.M.length k3) ∧ U.cell? ⟨w.heap.size + 1, 4, none⟩ = some (.slice Pa np kp) ∧ U.cell? ⟨w.heap.size + 1, 5, none⟩ = some (.slice Ta nt kt)) := fun U q => by
        have h1 := HT4.out.q q
        have h2 := HGq.out.q q
        exact ⟨h1.c0, h1.c1, h2.c0, h2.c1, h2.c2, h2.c3, h2.c4, h2.c5⟩
      clear htb d1 d2
      cases is
      · have hnv : numV ks c.V.length (k : Int) = -1 := by rw [HND.out, if_neg (fun h => by cases h.1)]
        have hno : firstV ks c.V (k : Int) = -1 := by rw [HFD.out, hnv]; rfl
        have HO2 : Hid (OwnC W2 g (cellsI (laidF ks c.V (k + 1)))) := by have h := HO1.out; rw [← hno, HST.out] at h; exact h
        clear hno hnv
        obtain ⟨s0, s1, s2, s3, s4, s5, s6, s7⟩ := ALL.out W4 (Q.refl _)
        go_wp2_with fail
        go_roundw
        case rel => exact ⟨k + 1, by omega, by go_num, Lib.hid (OwnC.q HO2.out HQT.out), Lib.hid (HBa1.out.q HQT.out), Lib.hid (HBg1.out.q HQT.out), Lib.hid (HQ1.out.trans HQT.out)⟩
        case measure => simp [intOf]; omega
      · by_cases h2 : t.k = 2
        · have e2 : (t.k == (2 : Int)) = true := beq_iff_eq.2 h2
          have CT : Hid (∀ U : World, Calls Tryz.prog 70 #[.agg #[.slice F nr cr, .slice Av c.V.length k1, .slice D c.N.length k2, .slice E c.M.length k3, .slice Pa np kp, .slice Ta nt kt], .int .i64 t.s] U fun e w' => e = .returned (.bool (decide (0 ≤ t.s) && decide (t.s < (c.V.length : Int)))) ∧ Q U w') := fun U => there13 c.V.length (.slice F nr cr) (.slice D c.N.length k2) (.slice E c.M.length k3) (.slice Pa np kp) (.slice Ta nt kt) Av k1 t.s U
          cases hth : (decide (0 ≤ t.s) && decide (t.s < (c.V.length : Int)))
          · have hnv : numV ks c.V.length (k : Int) < 0 := by
              rw [HND.out]
              by_cases hc : t.s < (c.V.length : Int)
              · rw [if_pos ⟨rfl, h2, hc⟩]
                simp [hc] at hth
                omega
              · rw [if_neg (fun h => hc h.2.2)]; omega
            have hno : firstV ks c.V (k : Int) = -1 := by rw [HFD.out, if_pos hnv]
            have HO2 : Hid (OwnC W2 g (cellsI (laidF ks c.V (k + 1)))) := by have h := HO1.out; rw [← hno, HST.out] at h; exact h
            clear hno hnv h2
            obtain ⟨s0, s1, s2, s3, s4, s5, s6, s7⟩ := ALL.out W4 (Q.refl _)
            go_wp2_with (go_at_call 70; refine (CT.out W4).mono ?_; rintro e w5 ⟨rfl, q5⟩; rw [hth]; have HQ5 := Lib.hid q5; clear q5)
            go_roundw
            case rel => exact ⟨k + 1, by omega, by go_num, Lib.hid (OwnC.q (OwnC.q HO2.out HQT.out) HQ5.out), Lib.hid ((HBa1.out.q HQT.out).q HQ5.out), Lib.hid ((HBg1.out.q HQT.out).q HQ5.out), Lib.hid ((HQ1.out.trans HQT.out).trans HQ5.out)⟩
            case measure => simp [intOf]; omega
          · have hth2 := hth
            simp only [Bool.and_eq_true, decide_eq_true_eq] at hth2
            obtain ⟨s, hs⟩ := Int.eq_ofNat_of_zero_le hth2.1
            have hs : t.s = (s : Int) := hs
            have hsl : s < c.V.length := by omega
            have hnv : numV ks c.V.length (k : Int) = (s : Int) := by rw [HND.out, if_pos ⟨rfl, h2, hth2.2⟩, hs]
            have hyes : firstV ks c.V (k : Int) = (fst c.V s : Int) := by rw [HFD.out, hnv, if_neg (by omega)]; simp
            have CFs := Lib.hid (fun U => CF.out s U hsl)
            have hkc : k < (cellsI ((laidF ks c.V k).set k (-1))).length := by rw [cellsI_len, List.length_set, laidF_len (Nat.le_of_lt hlt)]; exact hlt
            rw [hs] at CT ALL hth
            clear hnv hth2 hsl h2
            obtain ⟨s0, s1, s2, s3, s4, s5, s6, s7⟩ := ALL.out W4 (Q.refl _)
            go_wp2_with (first
              | (go_at_call 70; refine (CT.out W4).mono ?_; rintro e w5 ⟨rfl, q5⟩; rw [hth]; have HQ5 := Lib.hid q5; clear q5 s0 s1 s2 s3 s4 s5 s6 s7; obtain ⟨s0, s1, s2, s3, s4, s5, s6, s7⟩ := ALL.out w5 HQ5.out)
              | (go_at_call 65; refine (CFs.out w5 ((HQ1.out.trans HQT.out).trans HQ5.out)).mono ?_; rintro e w6 ⟨rfl, q6⟩; have HQ6 := Lib.hid (HQ5.out.trans q6); clear q6 s0 s1 s2 s3 s4 s5 s6 s7; have HO6 := Lib.hid (OwnC.q (OwnC.q HO1.out HQT.out) HQ6.out); obtain ⟨y0, y1⟩ := HO6.out.2 k _ (List.getElem?_eq_getElem hkc)))
            have HO7 := Lib.hid (HO6.out.set hkc (.int .i64 (fst c.V s : Int)))
            have gr := setCell_grown w6 g k (.int .i64 (fst c.V s : Int))
            have hgg := HG.out
            have HO8 : Hid (OwnC (w6.setCell ⟨g, k, none⟩ (.int .i64 (fst c.V s : Int))) g (cellsI (laidF ks c.V (k + 1)))) := by
              have h := HO7.out
              have e2 : (laidF ks c.V k).set k (fst c.V s : Int) = laidF ks c.V (k + 1) := by rw [← hyes]; exact HST.out
              rw [← cellsI_set, List.set_set, e2] at h
              exact h
            go_roundw
            case rel => exact ⟨k + 1, by omega, by go_num, HO8, Lib.hid (boxT_far ((HBa1.out.q HQT.out).q HQ6.out) gr (by omega)), Lib.hid (Box6.grown ((HBg1.out.q HQT.out).q HQ6.out) gr (by omega)), Lib.hid (grown_q gr ((HQ1.out.trans HQT.out).trans HQ6.out) (by omega))⟩
            case measure => simp [intOf]; omega
        · have e2 : (t.k == (2 : Int)) = false := beq_eq_false_iff_ne.2 h2
          have hnv : numV ks c.V.length (k : Int) = -1 := by rw [HND.out, if_neg (fun h => h2 h.2.1)]
          have hno : firstV ks c.V (k : Int) = -1 := by rw [HFD.out, hnv]; rfl
          have HO2 : Hid (OwnC W2 g (cellsI (laidF ks c.V (k + 1)))) := by have h := HO1.out; rw [← hno, HST.out] at h; exact h
          clear hno hnv h2
          obtain ⟨s0, s1, s2, s3, s4, s5, s6, s7⟩ := ALL.out W4 (Q.refl _)
          go_wp2_with fail
          go_roundw
          case rel => exact ⟨k + 1, by omega, by go_num, Lib.hid (OwnC.q HO2.out HQT.out), Lib.hid (HBa1.out.q HQT.out), Lib.hid (HBg1.out.q HQT.out), Lib.hid (HQ1.out.trans HQT.out)⟩
          case measure => simp [intOf]; omega
    · obtain rfl : k = ks.length := by omega
      have d1 : decide ((ks.length : Int) < (ks.length : Int)) = false := decide_eq_false (by omega)
      have d2 : decide (ks.length < ks.length) = false := decide_eq_false (by omega)
      go_wp2_with fail
      go_ret
      have hE : laidF ks c.V ks.length = firstsRow ks c.V := by unfold laidF; rw [Nat.sub_self, List.replicate_zero, List.append_nil, List.take_of_length_le (by rw [firstsRow_len]; exact Nat.le_refl _)]
      exact ⟨g, by rw [firstsRow_len]; rfl, by have := HG.out; omega, by rw [← hE]; exact HO.out, HQw.out⟩
end Go.Proofs.YtnifmfdlocgefaaGreat.Cy

namespace Go.Proofs.YtnifmfdlocgefaaGreat.Uf
open Go.RowKit Kit Tr

theorem firsts1_any (R : List Int) (c : Cells) (A : Option Addr) (k1 B x : Nat) (w : World) (hb : w.cell? ⟨B, 0, none⟩ = some (.slice A c.V.length k1)) (hv : Rds w w.heap.size A (cellsI c.V)) (hC : Cl R c.V) (hx : x < c.V.length) :
    Calls Tryz.prog 174 #[.int .i64 (x : Int), .pointer (some ⟨B, 0, none⟩)] w fun e w' => e = .returned (.bool (par c.V x == x)) ∧ ∃ d, w' = w.drewN d := by
  obtain ⟨ad, e, _, c0⟩ := hv.int_at hx
  rw [hC.at hx] at c0
  rw [e] at hb
  have HE : Hid (((par c.V x : Int) == (x : Int)) = (par c.V x == x)) := by
    unfold Hid
    by_cases h : par c.V x = x
    · rw [h]; simp
    · rw [beq_eq_false_iff_ne.2 h, beq_eq_false_iff_ne.2 (by omega)]
  clear e hv hC
  go_enter Tryz.func174, Tryz.ntmps174
  go_wp2_with fail
  go_ret
  exact ⟨by first | rfl | (rw [← HE.out]; rfl), 0, rfl⟩

end Go.Proofs.YtnifmfdlocgefaaGreat.Uf

namespace Go.Proofs.YtnifmfdlocgefaaGreat.Uf
open Go Go.RowKit Kit Tr

/-- what a call answers: a row of numbers, in memory of the call's own -/
def RowO (l : List Int) (w : World) (e : Ending) (w' : World) : Prop :=
  ∃ A k, e = .returned (.slice A l.length k) ∧ l.length ≤ k ∧ OwnO w' w.heap.size A (cellsI l) ∧ Q w w'
set_option maxRecDepth 100000 in
set_option maxHeartbeats 1000000 in
theorem thoseFO (B : Nat) (L : Nat) (p : Nat → Bool) (w : World) (hl : L ≤ 1000000)
    (hS : ∀ (x : Nat) W, x < L → Q w W → Calls Tryz.prog 174 #[.int .i64 (x : Int), .pointer (some ⟨B, 0, none⟩)] W fun e W' => e = .returned (.bool (p x)) ∧ ∃ d, W' = W.drewN d) :
    Calls Tryz.prog 173 #[.int .i64 (L : Int), .func (.func 174) #[] #[.pointer (some ⟨B, 0, none⟩)]] w (RowO (those L p) w) := by
  obtain ⟨i0, hi, hz0, hz1, hz2⟩ := info_parts intInfo
  have Hi := Lib.hid hi
  have Hz0 := Lib.hid hz0
  have Hz1 := Lib.hid hz1
  have Hz2 := Lib.hid hz2
  clear hi hz0 hz1 hz2
  have HS := Lib.hid hS
  clear hS
  go_enter Tryz.func173, Tryz.ntmps173
  go_wp2_with fail
  go_loopw [5, 8] (fun out i wr => ∃ (k : Nat) (v : Value), k ≤ L ∧ i = .int .i64 k ∧ v = out ∧ Hid (wr.ownsRow w.heap.size 3 1 v (those k p).length (cellsI (those k p))) ∧ Hid (Q w wr)) (fun _ i _ => L - (intOf i).toNat)
  case atStart => exact ⟨0, _, Nat.zero_le _, rfl, rfl, Lib.hid (own_nil w _), Lib.hid (Q.refl w)⟩
  case round =>
    obtain ⟨k, v, hk, rfl, rfl, HO, HQ⟩ := hrel
    by_cases hlt : k < L
    · have C := Lib.hid (HS.out k wr hlt HQ.out)
      cases hp : p k
      · rw [hp] at C
        have HO2 : Hid (those (k + 1) p = those k p) := those_no hp
        clear hp
        go_wp2_with (go_at_call 174; refine C.out.mono ?_; rintro e w2 ⟨rfl, hd⟩; have qd := q_drewN _ hd; clear hd)
        go_roundw
        case rel => exact ⟨k + 1, _, by omega, by go_num, rfl, by rw [HO2.out]; exact Lib.hid (row_kept HO.out qd (Nat.le_refl _)), Lib.hid (HQ.out.trans qd)⟩
        case measure => simp [intOf]; omega
      · rw [hp] at C
        have HO2 : Hid (those (k + 1) p = those k p ++ [(k : Int)]) := those_yes hp
        have hle : (those k p).length ≤ 1000000 := Nat.le_trans (those_len _ _) (by omega)
        clear hp
        go_wp2_with (first
          | (go_at_call 174; refine C.out.mono ?_; rintro e w2 ⟨rfl, hd⟩; have qd := q_drewN _ hd; clear hd; have qa := (Q.refl w2).alloc (Obj.cells #[.int .i64 (k : Int)] 3); have Ho := Lib.hid (row_kept (row_kept HO.out qd (Nat.le_refl _)) qa (Nat.le_refl _)); have Hs : Hid (Src (w2.alloc (Obj.cells #[.int .i64 (k : Int)] 3)) (some ⟨w2.heap.size, 0, none⟩) [.int .i64 (k : Int)]) := fun _ => ⟨_, rfl, src1 w2 (.int .i64 (k : Int)) 3⟩; have Hq2 := Lib.hid ((HQ.out.trans qd).trans qa); clear qa qd)
          | (at_builtin; refine wpList_append_src _ rfl (.tmp 14) (.tmp 16) _ rfl w.heap.size 3 i0 _ 1 8 Tryz.underlying24 Hi.out Hz0.out Hz1.out Hz2.out rfl (by omega) v (those k p).length (cellsI (those k p)) rfl Ho.out (some ⟨w2.heap.size, 0, none⟩) 1 1 [.int .i64 (k : Int)] rfl rfl Hs.out (by simp [Value.oneCell']) (by unfold maxLen; omega) (by omega) Hq2.out.size ?_; intro v' w' own' gr' _; have Own := Lib.hid own'; have HQ' : Hid (Q w w') := Below.grown Hq2.out gr' Hq2.out.size (fun i e => (Ho.out.lt i e).1); clear own' gr'))
        go_roundw
        case rel => exact ⟨k + 1, v', by omega, by go_num, rfl, by rw [HO2.out, cellsI_append, List.length_append]; exact Own, HQ'⟩
        case measure => simp [intOf]; omega
    · obtain ⟨A, c, rfl, hc, hR⟩ := own_o HO.out
      obtain rfl : k = L := by omega
      have HRd := Lib.hid hR
      clear hR
      go_wp2_with fail
      go_ret
      exact ⟨A, c, rfl, hc, HRd.out, HQ.out⟩

set_option maxRecDepth 100000 in
set_option maxHeartbeats 1000000 in
theorem firstsO_any (R : List Int) (c : Cells) (A D E : Option Addr) (n1 k1 n2 k2 n3 k3 : Nat) (w : World) (h1 : n1 = c.V.length) (h2 : n2 = c.N.length) (h3 : n3 = c.M.length) (h : Rd w c A k1 D k2 E k3) (hC : Cl R c.V) (hl : c.V.length ≤ 1000000) :
    Calls Tryz.prog 105 #[.agg #[.slice A n1 k1, .slice D n2 k2, .slice E n3 k3]] w (RowO (firstsL c.V) w) := by
  subst h1 h2 h3
  have q0 := (Q.refl w).alloc (Obj.cells #[Value.slice A c.V.length k1, Value.slice D c.N.length k2, Value.slice E c.M.length k3] 29)
  have HZ := Lib.hid q0.size
  have HB := Lib.hid (Box3.new w (Value.slice A c.V.length k1) (Value.slice D c.N.length k2) (Value.slice E c.M.length k3) 29)
  have HR := Lib.hid (h.q q0)
  have HC := Lib.hid hC
  clear h hC
  go_enter Tryz.func105, Tryz.ntmps105
  go_upto_region 1 with fail
  generalize w.alloc (Obj.cells #[Value.slice A c.V.length k1, Value.slice D c.N.length k2, Value.slice E c.M.length k3] 29) = W0 at *
  have b0 := HB.out.c0
  have C := Lib.hid (thoseFO w.heap.size c.V.length (fun m => par c.V m == m) W0 hl (fun x W hx q => firsts1_any R c A k1 w.heap.size x W (HB.out.q q).c0 (HR.out.v.q q) HC.out hx))
  go_wp2_with (go_at_call 173; refine C.out.mono ?_; rintro e w2 ⟨A2, k, rfl, hk, hr, q2⟩)
  go_ret
  exact ⟨A2, k, rfl, hk, fun h0 => by obtain ⟨g, e, hg, ho⟩ := hr h0; exact ⟨g, e, Nat.le_trans HZ.out hg, ho⟩, q0.trans q2⟩

end Go.Proofs.YtnifmfdlocgefaaGreat.Uf

namespace Go.Proofs.YtnifmfdlocgefaaGreat.Cy
open Go Go.RowKit Kit Uf Ig Tr

/-- the marks of loops that are done -/
structure Mks (dl : List Deferred) (lo hi : Nat) (M : Nat → Prop) (U : World) : Prop where
  all : ∀ d ∈ dl, ∃ r, d = { target := .collected r, args := #[] } ∧ lo ≤ r ∧ r < hi ∧ ¬ M r ∧ U.heap[r]? = some (.deferred (some []))
  apart : dl.Pairwise fun d e => d.target ≠ e.target
section
variable {dl : List Deferred} {lo hi hi' : Nat} {M M' : Nat → Prop} {U U' : World} {row : Option Nat}
theorem Mks.nil : Mks [] lo hi M U := ⟨fun _ h => absurd h List.not_mem_nil, List.Pairwise.nil⟩
theorem Mks.fr (h : Mks dl lo hi M U) (f : Fr M U U') (g : Gr M M' U) : Mks dl lo hi M' U' := ⟨fun d hd => by
  obtain ⟨r, e, h1, h2, h3, h4⟩ := h.all d hd
  have hlt := (Array.getElem?_eq_some_iff.1 h4).1
  exact ⟨r, e, h1, h2, fun hm => (g r hm).elim h3 (fun hle => by omega), (f.block r hlt h3).trans h4⟩, h.apart⟩
theorem Mks.q (h : Mks dl lo hi M U) (q : Q U U') : Mks dl lo hi M U' := h.fr (Fr.of_q q) (Gr.refl _ _)
theorem Mks.own (h : Mks dl lo hi M U) (gr : U.grownBy U' row) (hr : ∀ r, row = some r → hi ≤ r) : Mks dl lo hi M U' := ⟨fun d hd => by
  obtain ⟨r, e, h1, h2, h3, h4⟩ := h.all d hd
  have hlt := (Array.getElem?_eq_some_iff.1 h4).1
  exact ⟨r, e, h1, h2, h3, (gr.block r hlt (fun e => by have := hr r e.symm; omega)).trans h4⟩, h.apart⟩
theorem Mks.cons (h : Mks dl lo hi M U) {D : Nat} (h1 : hi ≤ D) (hlo : lo ≤ D) (h2 : D < hi') (hM : ¬ M D) (e : U.heap[D]? = some (.deferred (some []))) : Mks ({ target := .collected D, args := #[] } :: dl) lo hi' M U := by
  refine ⟨fun d hd => ?_, List.pairwise_cons.2 ⟨fun d hd => ?_, h.apart⟩⟩
  · rcases List.mem_cons.1 hd with rfl | hd
    · exact ⟨D, rfl, hlo, h2, hM, e⟩
    · obtain ⟨r, e, k1, k2, k3, k4⟩ := h.all d hd
      exact ⟨r, e, k1, by omega, k3, k4⟩
  · obtain ⟨r, rfl, k1, k2, k3, k4⟩ := h.all d hd
    intro e
    injection e with e
    omega
theorem leave_marks {F : Fence} {n : Nat} {P : Program} {fn : Func} {tmps : Array Value} {R : Ending → World → Prop} {Z : World → Prop} (hZ : ∀ U r, Z U → lo ≤ r → ¬ M r → Z (U.putObj r (.deferred none)))
    (hR : ∀ U, Z U → LeavesIn F n P fn tmps R [] .returning U) : ∀ (dl : List Deferred) (U : World), Mks dl lo hi M U → Z U → LeavesInM F n P fn tmps R dl .returning U
  | [], U, _, z => hR U z
  | d :: dl, U, h, z => by
    obtain ⟨r, rfl, h1, h2, h3, h4⟩ := h.all d (List.mem_cons_self ..)
    refine ⟨by simp, .inl ⟨_, _, rfl, run_takeDeferred h4, ?_⟩⟩
    refine leave_marks hZ hR dl _ ⟨fun e he => ?_, (List.pairwise_cons.1 h.apart).2⟩ (hZ U r z h1 h3)
    obtain ⟨s, rfl, k1, k2, k3, k4⟩ := h.all e (List.mem_cons_of_mem _ he)
    have hne : s ≠ r := fun hh => (List.pairwise_cons.1 h.apart).1 _ he (by rw [hh])
    exact ⟨s, rfl, k1, k2, k3, (World.putObj_heap_other (by omega)).trans k4⟩
end
section
variable {K M M' : Nat → Prop} {w U U' U'' : World} {row : Option Nat}
theorem Kp.own (h : Kp K w M U) (gr : U.grownBy U' row) (hr : ∀ r, row = some r → w.heap.size ≤ r) : Kp K w M U' :=
  ⟨Nat.le_trans h.size gr.size, fun k hk hK => (gr.block k (Nat.lt_of_lt_of_le hk h.size) (fun e => by have := hr k e.symm; omega)).trans (h.block k hk hK), h.off⟩
theorem Kp.start (h : ∀ k, K k → ¬ M k) : Kp K w M w := ⟨Nat.le_refl _, fun _ _ _ => rfl, fun k _ hk => h k hk⟩
/-- what is kept in a loop that begins at U', behind U -/
def Ext (K : Nat → Prop) (w U : World) (b : Nat) : Prop := (K b ∧ b < w.heap.size) ∨ U.heap.size ≤ b
theorem Kp.ext (h : Kp K w M U) (hM : ∀ k, M k → k < U.heap.size) : ∀ k, Ext K w U k → ¬ M k := fun k hk hm => by
  rcases hk with ⟨h1, h2⟩ | h1
  · exact h.off k h2 h1 hm
  · have := hM k hm; omega
theorem Kp.back (h : Kp K w M U) (q : Q U U') (k : Kp (Ext K w U) U' M' U'') : Kp K w M' U'' :=
  ⟨Nat.le_trans h.size (Nat.le_trans q.size k.size), fun b hb hK => (k.block b (Nat.lt_of_lt_of_le hb (Nat.le_trans h.size q.size)) (.inl ⟨hK, hb⟩)).trans ((q.block b (Nat.lt_of_lt_of_le hb h.size)).trans (h.block b hb hK)), fun b hb hK => k.off b (Nat.lt_of_lt_of_le hb (Nat.le_trans h.size q.size)) (.inl ⟨hK, hb⟩)⟩
theorem Kp.cellq (h : Kp K w M U) (q : Q U U') {p : Addr} (hp : p.block < w.heap.size) (hK : K p.block) : U'.cell? p = w.cell? p := (q.cell (Nat.lt_of_lt_of_le hp h.size)).trans (h.cell hp hK)
end
theorem rowG_le {P : List (List Int)} {r : Nat} (h : ∀ x ∈ P, x.length ≤ r) (i : Nat) : (rowG P i).length ≤ r := by
  unfold rowG
  rw [List.getD_eq_getElem?_getD]
  cases e : P[i]? with
  | none => exact Nat.zero_le _
  | some x => exact h x (List.mem_of_getElem? e)
theorem cell_new (w : World) (v : Value) (t : TypeId) (B : Nat) (h : B = w.heap.size) : (w.alloc (.cells #[v] t)).cell? ⟨B, 0, none⟩ = some v := by subst h; simp
theorem toldW_facts (w : World) (rv vv fv : Value) : Q w (toldW w rv vv fv) ∧ (toldW w rv vv fv).heap.size = w.heap.size + 3 ∧ (toldW w rv vv fv).cell? ⟨w.heap.size, 0, none⟩ = some rv ∧ (toldW w rv vv fv).cell? ⟨w.heap.size + 1, 0, none⟩ = some vv ∧ (toldW w rv vv fv).cell? ⟨w.heap.size + 2, 0, none⟩ = some fv := by
  unfold toldW
  have q1 := (Q.refl w).alloc (.cells #[rv] 23)
  have q2 := (Q.refl (w.alloc (.cells #[rv] 23))).alloc (.cells #[vv] 3)
  have q3 := (Q.refl ((w.alloc (.cells #[rv] 23)).alloc (.cells #[vv] 3))).alloc (.cells #[fv] 24)
  refine ⟨(q1.trans q2).trans q3, by simp, ?_, ?_, ?_⟩
  · exact ((q2.trans q3).cell (p := ⟨w.heap.size, 0, none⟩) (by simp)).trans (cell_new _ _ _ _ rfl)
  · exact (q3.cell (p := ⟨w.heap.size + 1, 0, none⟩) (by simp)).trans (cell_new _ _ _ _ (by simp))
  · exact cell_new _ _ _ _ (by simp)
/-- the edges of the first k first ones -/
def edgesTo (ks : List (List Int)) (V : List Int) (P T : List (List Int)) (k : Nat) : List (Nat × Nat) := ((firstsN V).take k).flatMap (edgesAt ks V P T)
section
variable {ks : List (List Int)} {V : List Int} {P T : List (List Int)} {k v : Nat}
theorem edges_succ (hk : k < (firstsN V).length) (hv : (firstsN V)[k] = v) : edgesTo ks V P T (k + 1) = edgesTo ks V P T k ++ ((toldN ks V (rowG T v) v).map (fun w => (v, w)) ++ (toldN ks V (rowG P v) v).map (fun w => (w, v))) := by
  unfold edgesTo
  rw [List.take_succ_eq_append_getElem hk, List.flatMap_append, hv]
  simp [edgesAt]
theorem edges_all : edgesTo ks V P T (firstsN V).length = edgesN ks V P T := by unfold edgesTo edgesN; rw [List.take_length]
theorem edges_pre : ∃ post, edgesTo ks V P T (k + 1) ++ post = edgesN ks V P T :=
  ⟨((firstsN V).drop (k + 1)).flatMap (edgesAt ks V P T), by unfold edgesTo edgesN; rw [← List.flatMap_append, List.take_append_drop]⟩
theorem edges_in1 (hk : k < (firstsN V).length) (hv : (firstsN V)[k] = v) {pre : List Nat} {x : Nat} (h : ∃ post, pre ++ x :: post = toldN ks V (rowG T v) v) :
    ∃ post, (edgesTo ks V P T k ++ pre.map (fun w => (v, w))) ++ (v, x) :: post = edgesN ks V P T := by
  obtain ⟨p1, h1⟩ := h
  obtain ⟨p2, h2⟩ := edges_pre (V := V) (k := k) (ks := ks) (P := P) (T := T)
  rw [edges_succ hk hv, ← h1] at h2
  refine ⟨p1.map (fun w => (v, w)) ++ ((toldN ks V (rowG P v) v).map (fun w => (w, v)) ++ p2), ?_⟩
  rw [← h2]
  simp
theorem edges_in2 (hk : k < (firstsN V).length) (hv : (firstsN V)[k] = v) {pre : List Nat} {x : Nat} (h : ∃ post, pre ++ x :: post = toldN ks V (rowG P v) v) :
    ∃ post, ((edgesTo ks V P T k ++ (toldN ks V (rowG T v) v).map (fun w => (v, w))) ++ pre.map (fun w => (w, v))) ++ (x, v) :: post = edgesN ks V P T := by
  obtain ⟨p1, h1⟩ := h
  obtain ⟨p2, h2⟩ := edges_pre (V := V) (k := k) (ks := ks) (P := P) (T := T)
  rw [edges_succ hk hv, ← h1] at h2
  refine ⟨p1.map (fun w => (w, v)) ++ p2, ?_⟩
  rw [← h2]
  simp
end
end Go.Proofs.YtnifmfdlocgefaaGreat.Cy

namespace Go.Proofs.YtnifmfdlocgefaaGreat.Cy
open Go Go.RowKit Go.Shelf Kit Uf Ig Tr
open Go.Proofs.YtnifmfdlocgefaaGreat.Hs (Keys Ints KeysP IntsP BoxT)
attribute [local go_sem] Oper.semAt_some

set_option maxRecDepth 100000 in
set_option maxHeartbeats 4000000 in
theorem edges_gives (R : List Int) (c : Cells) (P T ks : List (List Int)) (A S F Av D E Pa Ta : Option Addr) (ca ms d nr cr k1 k2 k3 kp kt Ba Bg : Nat) (K : Nat → Prop) (w : World)
    (ba : BoxT w Ba (.slice A ks.length ca) (.slice S ms d)) (bg : Box6 w Bg (.slice F nr cr) (.slice Av c.V.length k1) (.slice D c.N.length k2) (.slice E c.M.length k3) (.slice Pa P.length kp) (.slice Ta T.length kt)) (kg : K Bg)
    (hk : Keys w w.heap.size A ks) (hkey : ∀ k ∈ ks, k.length ≤ 100000) (hl : ks.length ≤ 1000000) (h : Rd w c Av k1 D k2 E k3) (hC : Cl R c.V) (hlv : c.V.length ≤ 1000000)
    (hP : KeysP w K Pa P) (hT : KeysP w K Ta T) (lP : P.length = c.V.length) (lT : T.length = c.V.length) (sP : ∀ x ∈ P, x.length ≤ 1000000) (sT : ∀ x ∈ T, x.length ≤ 1000000) :
    Gives Tryz.prog 134 #[.pointer (some ⟨Ba, 0, none⟩), .pointer (some ⟨Bg, 0, none⟩)] (fun x : Nat × Nat => #[.int .i64 (x.1 : Int), .int .i64 (x.2 : Int)]) (edgesN ks c.V P T) K w := by
  intro l J M W q hJ hKM h0 hY
  have HJ := Lib.hid hJ
  have HY := Lib.hid hY
  have HM0 := Lib.hid (hJ.lt _ _ _ h0)
  have HKM := Lib.hid hKM
  have H0 := Lib.hid h0
  have HBa := Lib.hid (ba.q q)
  have HBg := Lib.hid (bg.q q)
  have HbL : Hid (Bg < w.heap.size) := bg.lt
  have CF := Lib.hid (fun (U : World) (p : Q W U) => firstsOf_any R c A S F Av D E Pa Ta _ ca ms d nr cr k1 k2 k3 P.length kp T.length kt ks U rfl ((hk.q (Nat.le_refl _) (q.trans p)).more (q.trans p).size) hkey hl (h.q (q.trans p)) hC hlv)
  have CG := Lib.hid (fun (U : World) (p : Q W U) => Uf.firstsO_any R c Av D E _ k1 _ k2 _ k3 U rfl rfl rfl (h.q (q.trans p)) hC hlv)
  have HCl := Lib.hid hC
  have HP := Lib.hid hP
  have HT := Lib.hid hT
  have HLP := Lib.hid lP
  have HLT := Lib.hid lT
  have HSP := Lib.hid (fun v => rowG_le sP v)
  have HST := Lib.hid (fun v => rowG_le sT v)
  have HLV := Lib.hid hlv
  have HQ := Lib.hid q
  have HKg := Lib.hid kg
  clear hJ hY hKM h0 ba bg hk hkey hl h hC hP hT lP lT sP sT hlv q kg
  refine callsIn_wide.1 (callsIn_of_wp_marks (n := 5) Tryz.func134 rfl trivial ?_ rfl)
  simp only [Tryz.ntmps134, List.size_toArray, List.length_cons, List.length_nil, Nat.reduceAdd, Nat.reduceSub, Array.replicate_succ, Array.replicate_zero, List.push_toArray, List.append_toArray, List.nil_append, List.cons_append]
  refine wpIn_wide.2 ?_
  go_upto_region 1 with fail
  have q1 := (Q.refl W).alloc (.cells #[.func (.yield l) #[] #[]] 164)
  have hy0 : (W.alloc (.cells #[.func (.yield l) #[] #[]] 164)).cell? ⟨W.heap.size, 0, none⟩ = some (.func (.yield l) #[] #[]) := by simp
  have hz1 : (W.alloc (.cells #[.func (.yield l) #[] #[]] 164)).heap.size = W.heap.size + 1 := by simp
  have HQ1 := Lib.hid q1
  have HBa1 := Lib.hid (HBa.out.q q1)
  have HBg1 := Lib.hid (HBg.out.q q1)
  have HY1 := Lib.hid hy0
  have HZ1 := Lib.hid hz1
  clear q1 hy0 hz1 HBa HBg
  generalize W.alloc (.cells #[.func (.yield l) #[] #[]] 164) = W1 at *
  have a0 := HBa1.out.c0
  have a1 := HBa1.out.c1
  have g0 := HBg1.out.c0
  have g1 := HBg1.out.c1
  have g2 := HBg1.out.c2
  have g3 := HBg1.out.c3
  have g4 := HBg1.out.c4
  have g5 := HBg1.out.c5
  go_upto_region 3 with (first
    | (go_at_call 135; refine (CF.out W1 HQ1.out).mono ?_; rintro e W2 ⟨gf, rfl, hgf, hO, q2⟩; rw [firstsRow_len]; have HGf := Lib.hid hgf; have HO := Lib.hid hO; have HQ2 := Lib.hid q2; clear a0 a1 g0 g1 g2 g3 g4 g5 hgf hO; have g1 := (HBg1.out.q q2).c1; have g2 := (HBg1.out.q q2).c2; have g3 := (HBg1.out.q q2).c3; clear q2)
    | (go_at_call 105; refine (CG.out W2 (HQ1.out.trans HQ2.out)).mono ?_; rintro e W3 ⟨Ar, cr2, rfl, hcr, hOr, q3⟩; rw [show (Uf.firstsL c.V).length = (firstsN c.V).length from List.length_map _]; have HOr := Lib.hid hOr; have HQ3 := Lib.hid q3; clear hcr hOr q3 g1 g2 g3))
  have HO3 := Lib.hid (OwnC.q HO.out HQ3.out)
  have HQ13 := Lib.hid (HQ2.out.trans HQ3.out)
  have HBg3 := Lib.hid (HBg1.out.q HQ13.out)
  have HY3 : Hid (W3.cell? ⟨W.heap.size, 0, none⟩ = some (.func (.yield l) #[] #[])) := (HQ13.out.cell (p := ⟨W.heap.size, 0, none⟩) (by have := HZ1.out; show W.heap.size < _; omega)).trans HY1.out
  have HQW3 := Lib.hid (HQ1.out.trans HQ13.out)
  have HS3 : Hid (W.heap.size + 1 ≤ W3.heap.size) := by have h1 := HZ1.out; have h2 := HQ13.out.size; unfold Hid; omega
  have HSw : Hid (w.heap.size ≤ W.heap.size) := HQ.out.size
  have HGf3 : Hid (W.heap.size + 1 ≤ gf) := by have h1 := HZ1.out; have h2 := HGf.out; unfold Hid; omega
  have HOr3 : Hid (OwnO W3 (W.heap.size + 1) Ar (cellsI (Uf.firstsL c.V))) := fun h0 => by
    obtain ⟨g, e, hg, ho⟩ := HOr.out h0
    exact ⟨g, e, by have h1 := HZ1.out; have h2 := HQ2.out.size; omega, ho⟩
  obtain ⟨K2, hK2⟩ : ∃ K2 : Nat → Prop, K2 = fun b => (K b ∧ b < w.heap.size) ∨ W.heap.size ≤ b := ⟨_, rfl⟩
  have HK2a : Hid (∀ b, K b → b < w.heap.size → K2 b) := fun b h1 h2 => by rw [hK2]; exact .inl ⟨h1, h2⟩
  have HK2b : Hid (∀ b, W.heap.size ≤ b → K2 b) := fun b h1 => by rw [hK2]; exact .inr h1
  have HKp0 : Hid (Kp K2 W3 M W3) := Kp.start fun b hb hm => by
    rw [hK2] at hb
    rcases hb with ⟨h1, h2⟩ | h1
    · exact HKM.out b h1 hm
    · have := HM0.out b hm; omega
  clear hK2
  have HP3 := Lib.hid (HP.out.toP (P' := K2) (HQ.out.trans HQW3.out).size (fun p _ hl => (HQ.out.trans HQW3.out).cell hl) HK2a.out)
  have HT3 := Lib.hid (HT.out.toP (P' := K2) (HQ.out.trans HQW3.out).size (fun p _ hl => (HQ.out.trans HQW3.out).cell hl) HK2a.out)
  have HF3 : Hid (RdsP W3 K2 (some ⟨gf, 0, none⟩) (cellsI (firstsRow ks c.V))) := RdsP.of_own HO3.out (HK2b.out gf (by have := HGf3.out; omega))
  have HKgb : Hid (K2 Bg ∧ Bg < W3.heap.size) := ⟨HK2a.out Bg HKg.out HbL.out, HBg3.out.lt⟩
  have HKy : Hid (K2 W.heap.size ∧ W.heap.size < W3.heap.size) := ⟨HK2b.out _ (Nat.le_refl _), by have := HS3.out; omega⟩
  have HJ3 : Hid (J [] M W3) := HJ.out.q H0.out HQW3.out
  -- what is read in rounds
  have ALL : Hid (∀ M' U, Kp K2 W3 M' U → U.cell? ⟨Bg, 4, none⟩ = some (.slice Pa P.length kp) ∧ U.cell? ⟨Bg, 5, none⟩ = some (.slice Ta T.length kt) ∧ U.cell? ⟨W.heap.size, 0, none⟩ = some (.func (.yield l) #[] #[]) ∧ ∀ k, k < (firstsN c.V).length → ∃ g, Ar = some ⟨g, 0, none⟩ ∧ ∃ hk : k < (firstsN c.V).length, U.cell? ⟨g, k, none⟩ = some (.int .i64 ((firstsN c.V)[k] : Int))) := fun M' U hU => by
    refine ⟨(hU.cell (p := ⟨Bg, 4, none⟩) HKgb.out.2 HKgb.out.1).trans HBg3.out.c4, (hU.cell (p := ⟨Bg, 5, none⟩) HKgb.out.2 HKgb.out.1).trans HBg3.out.c5, (hU.cell (p := ⟨W.heap.size, 0, none⟩) HKy.out.2 HKy.out.1).trans HY3.out, fun k hk => ?_⟩
    have hln : (Uf.firstsL c.V).length = (firstsN c.V).length := List.length_map _
    obtain ⟨g, e, hg, ho⟩ := HOr3.out (by rw [cellsI_len, hln]; omega)
    have hat : (cellsI (Uf.firstsL c.V))[k]? = some (.int .i64 ((firstsN c.V)[k] : Int)) := by
      unfold cellsI
      rw [List.getElem?_map]
      show Option.map _ (((firstsN c.V).map Int.ofNat)[k]?) = _
      rw [List.getElem?_map, List.getElem?_eq_getElem hk]
      rfl
    exact ⟨g, e, hk, (hU.cell (p := ⟨g, k, none⟩) ho.1 (HK2b.out g (by show W.heap.size ≤ g; omega))).trans (ho.2 k _ hat).1⟩
  clear HO HQ2 HQ3 HBg1 HBa1 HOr HO3 HQ13 HBg3 HY3 HOr3 HY1 HZ1 HP HT CF CG HGf HQ1
  obtain ⟨I, hI⟩ : ∃ I : Act → World → Prop, I = fun a' w' => ∃ (k : Nat) (M' : Nat → Prop) (dl : List Deferred) (ui u6 u17 u18 u19 u20 u21 u22 u23 u24 u31 u32 u33 u34 u35 u42 : Value), a' = { tmps := #[.func (.yield l) #[] #[], .pointer (some ⟨Ba, 0, none⟩), .pointer (some ⟨Bg, 0, none⟩), .pointer (some ⟨W.heap.size, 0, none⟩), .slice (some ⟨gf, 0, none⟩) ks.length ks.length, undef, u6, undef, undef, .agg #[.slice A ks.length ca, .slice S ms d], .agg #[.slice F nr cr, .slice Av c.V.length k1, .slice D c.N.length k2, .slice E c.M.length k3, .slice Pa P.length kp, .slice Ta T.length kt], .slice (some ⟨gf, 0, none⟩) ks.length ks.length, .pointer (some ⟨Bg, 1, none⟩), .agg #[.slice Av c.V.length k1, .slice D c.N.length k2, .slice E c.M.length k3], .slice Ar (firstsN c.V).length cr2, .int .i64 ((firstsN c.V).length : Int), ui, u17, u18, u19, u20, u21, u22, u23, u24, undef, undef, undef, undef, undef, undef, u31, u32, u33, u34, u35, undef, undef, undef, undef, undef, undef, u42], defers := dl } ∧ ui = .int .i64 (k : Int) ∧ k ≤ (firstsN c.V).length ∧ Hid (J (edgesTo ks c.V P T k) M' w') ∧ Hid (Kp K2 W3 M' w') ∧ Hid (Mks dl W.heap.size w'.heap.size M' w') := ⟨_, rfl⟩
  have HI := Lib.hid hI
  clear hI
  refine wp_loop I (fun a' _ => (firstsN c.V).length - (intOf (a'.tmps.getD 16 undef)).toNat) ?_ ?_
  · rw [HI.out]
    exact ⟨0, M, [], _, _, _, _, _, _, _, _, _, _, _, _, _, _, _, _, rfl, rfl, Nat.zero_le _, HJ3, HKp0, Lib.hid Mks.nil⟩
  · intro a' wr hinv
    rw [HI.out] at hinv
    obtain ⟨k, M', dl, ui, u6, u17, u18, u19, u20, u21, u22, u23, u24, u31, u32, u33, u34, u35, u42, rfl, rfl, hkl, HJk, HKk, HMk⟩ := hinv
    clear HJ3 HKp0
    obtain ⟨s4, s5, sy, sf⟩ := ALL.out M' wr HKk.out
    have HMl := Lib.hid (HJ.out.lt _ _ _ HJk.out)
    by_cases hlt : k < (firstsN c.V).length
    · obtain ⟨gr, rfl, hk', c0⟩ := sf k hlt
      have d1 : decide ((k : Int) < ((firstsN c.V).length : Int)) = true := decide_eq_true (by omega)
      have d2 : decide (k < (firstsN c.V).length) = true := decide_eq_true hlt
      have hvl : (firstsN c.V)[k] < c.V.length := (mem_firsts.1 (List.getElem_mem hlt)).1
      obtain ⟨v, hv⟩ : ∃ v, v = (firstsN c.V)[k] := ⟨_, rfl⟩
      rw [← hv] at c0 hvl
      have HV := Lib.hid hv
      have HVl := Lib.hid hvl
      clear hv sf hvl
      go_upto_region 5 with fail
      have qa := (Q.refl wr).alloc (.cells #[.int .i64 (v : Int)] 3)
      have hb6 : (wr.alloc (.cells #[.int .i64 (v : Int)] 3)).cell? ⟨wr.heap.size, 0, none⟩ = some (.int .i64 (v : Int)) := by simp
      have hs6 : (wr.alloc (.cells #[.int .i64 (v : Int)] 3)).heap.size = wr.heap.size + 1 := by simp
      have HQa := Lib.hid qa
      have HB6 := Lib.hid hb6
      have HS6 := Lib.hid hs6
      have s4' := (ALL.out M' _ (HKk.out.q qa)).1
      have s5' := (ALL.out M' _ (HKk.out.q qa)).2.1
      clear c0 s4 s5 sy qa hs6 d1 d2
      generalize wr.alloc (.cells #[.int .i64 (v : Int)] 3) = W4 at *
      go_wp2_with (go_at_call 136; refine (told_any _ _ _ _ _ _ _ _).mono ?_; rintro e W5 ⟨rfl, hW5⟩; obtain ⟨q5, z5, x0, x1, x2⟩ := toldW_facts W4 (.slice Ta T.length kt) (.int .i64 (v : Int)) (.slice (some ⟨gf, 0, none⟩) ks.length ks.length); rw [← hW5] at q5 z5 x0 x1 x2; have HQ5 := Lib.hid (HQa.out.trans q5); have HZ5 := Lib.hid z5; have HX0 := Lib.hid x0; have HX1 := Lib.hid x1; have HX2 := Lib.hid x2; have HB65 := Lib.hid ((q5.cell (p := ⟨wr.heap.size, 0, none⟩) (by have := HS6.out; show wr.heap.size < _; omega)).trans HB6.out); clear hW5 q5 z5 x0 x1 x2 hb6 s4' s5')
      have hs6 := HS6.out
      have hz5 := HZ5.out
      have hws := HKk.out.size
      have hsw := HS3.out
      have hq5 := HQ5.out.size
      have hK1 := HKk.out.ext HMl.out
      have HK15 := Lib.hid hK1
      have HKs1 := Lib.hid (Kp.start (w := W5) hK1)
      refine (wpIn_wide (n := 5)).1 ?_
      refine range_gives (gf := 195) (lb := #[.pointer (some ⟨W4.heap.size + 1, 0, none⟩), .pointer (some ⟨W4.heap.size, 0, none⟩), .pointer (some ⟨W4.heap.size + 2, 0, none⟩)]) rfl (enters_of Tryz.func195 (by kernel_rfl) rfl)
        (told_gives ks T c.V v Ta (some ⟨gf, 0, none⟩) kt ks.length ks.length (W4.heap.size + 1) W4.heap.size (W4.heap.size + 2) (Ext K2 W3 wr) W5 (by have := HLT.out; have := HVl.out; omega) HX1.out HX0.out HX2.out ⟨.inr (by omega), by omega⟩ ⟨.inr (by omega), by omega⟩ ⟨.inr (by omega), by omega⟩
          (HT3.out.toP (Nat.le_trans HKk.out.size HQ5.out.size) (fun p hp hl => HKk.out.cellq HQ5.out hl hp) (fun b h1 h2 => .inl ⟨h1, h2⟩)) (HF3.out.toP (Nat.le_trans HKk.out.size HQ5.out.size) (fun p hp hl => HKk.out.cellq HQ5.out hl hp) (fun b h1 h2 => .inl ⟨h1, h2⟩)) rfl (by have := HLT.out; have := HLV.out; omega) (HST.out v)) (Q.refl _) (fun x => rfl)
        (fun pre M1 U => J (edgesTo ks c.V P T k ++ pre.map (fun w => (v, w))) M1 U ∧ Kp (Ext K2 W3 wr) W5 M1 U ∧ Mks dl W.heap.size wr.heap.size M1 U)
        ⟨fun pre M1 U U' row h gr hr => ⟨HJ.out.own _ _ _ _ row h.1 gr (fun r e => ⟨by have := (hr r e).1; omega, (hr r e).2⟩), h.2.1.own gr (fun r e => (hr r e).1), h.2.2.own gr (fun r e => by have := (hr r e).1; omega)⟩, fun pre M1 U h => HJ.out.lt _ _ _ h.1⟩
        M' hK1 ⟨by rw [List.map_nil, List.append_nil]; exact HJ.out.q HJk.out HQ5.out, HKs1.out, HMk.out.q HQ5.out⟩
        (fun x => { tmps := #[.func (.yield l) #[] #[], .pointer (some ⟨Ba, 0, none⟩), .pointer (some ⟨Bg, 0, none⟩), .pointer (some ⟨W.heap.size, 0, none⟩), .slice (some ⟨gf, 0, none⟩) ks.length ks.length, undef, .pointer (some ⟨wr.heap.size, 0, none⟩), .int .i64 (x : Int), undef, .agg #[.slice A ks.length ca, .slice S ms d], .agg #[.slice F nr cr, .slice Av c.V.length k1, .slice D c.N.length k2, .slice E c.M.length k3, .slice Pa P.length kp, .slice Ta T.length kt], .slice (some ⟨gf, 0, none⟩) ks.length ks.length, .pointer (some ⟨Bg, 1, none⟩), .agg #[.slice Av c.V.length k1, .slice D c.N.length k2, .slice E c.M.length k3], .slice (some ⟨gr, 0, none⟩) (firstsN c.V).length cr2, .int .i64 ((firstsN c.V).length : Int), .int .i64 (k : Int), .bool true, .pointer (some ⟨gr, k, none⟩), .int .i64 (v : Int), .pointer (some ⟨Bg, 5, none⟩), .slice Ta T.length kt, .int .i64 (v : Int), .slice (some ⟨gf, 0, none⟩) ks.length ks.length, .func (.func 195) #[] #[.pointer (some ⟨W4.heap.size + 1, 0, none⟩), .pointer (some ⟨W4.heap.size, 0, none⟩), .pointer (some ⟨W4.heap.size + 2, 0, none⟩)], .int .i64 (x : Int), undef, undef, undef, undef, undef, u31, u32, u33, u34, u35, undef, undef, undef, undef, undef, undef, u42], defers := [] }) ?assign1 ?body1 ?done1
      case assign1 =>
        clear hs6 hz5 hws hsw hq5
        intro l' x U K' hK'
        gi_wp2
        exact hK'
      case body1 =>
        rintro l' pre x M2 U ⟨h1, h2, h3⟩ hx
        have hx5 := h2
        have hb := HKk.out.back HQ5.out hx5
        obtain ⟨_, _, sy, _⟩ := ALL.out M2 U hb
        have sv : U.cell? ⟨wr.heap.size, 0, none⟩ = some (.int .i64 (v : Int)) := (hx5.cell (p := ⟨wr.heap.size, 0, none⟩) (by show wr.heap.size < _; omega) (.inr (Nat.le_refl _))).trans HB65.out
        have hY2 := HY.out (edgesTo ks c.V P T k ++ pre.map (fun w => (v, w))) (v, x) M2 U h1 (edges_in1 hlt HV.out.symm hx)
        obtain ⟨fn, tmps, assign, body, hy, hR⟩ := hY2
        have HR := Lib.hid hR
        have HH := Lib.hid h2
        have HHm := Lib.hid h3
        dsimp only at hy
        clear hR h1 h2 h3 hx hb hx5 hs6 hz5 hws hsw hq5
        gi_wp2
        refine RoundIn.mono (roundIn_any HR.out) ?_
        rintro e U' ⟨rfl, M3, hJ3, hG3, hF3⟩
        have HJ3 := Lib.hid hJ3
        have HG3 := Lib.hid hG3
        have HF3' := Lib.hid hF3
        clear hJ3 hG3 hF3
        gi_wp2
        exact ⟨M3, ⟨by rw [List.map_append, ← List.append_assoc]; exact HJ3.out, HH.out.fr HF3'.out HG3.out, HHm.out.fr HF3'.out HG3.out⟩, HG3.out, HF3'.out⟩
      case done1 =>
        rintro Dd M1 U1 ⟨h1, h2, h3⟩ hD hDM hdef
        have HJ1 := Lib.hid h1
        have HKx := Lib.hid h2
        have HK1 := Lib.hid (HKk.out.back HQ5.out h2)
        have hDl := (Array.getElem?_eq_some_iff.1 hdef).1
        have HMk1 := Lib.hid (h3.cons (D := Dd) (hi' := U1.heap.size) (by omega) (by omega) hDl hDM hdef)
        have HMl1 := Lib.hid (HJ.out.lt _ _ _ h1)
        have sv : U1.cell? ⟨wr.heap.size, 0, none⟩ = some (.int .i64 (v : Int)) := (h2.cell (p := ⟨wr.heap.size, 0, none⟩) (by show wr.heap.size < _; omega) (.inr (Nat.le_refl _))).trans HB65.out
        have s4 := (ALL.out M1 U1 HK1.out).1
        simp only [Exit.inBlock, Exit.then]
        generalize ({ target := Target.collected Dd, args := #[] } :: dl) = dl1 at *
        clear h1 h2 h3 hD hDM hdef hDl hs6 hz5 hws hsw hq5 hK1
        go_wp2_with (go_at_call 136; refine (told_any _ _ _ _ _ _ _ _).mono ?_; rintro e W7 ⟨rfl, hW7⟩; obtain ⟨q7, z7, x0, x1, x2⟩ := toldW_facts U1 (.slice Pa P.length kp) (.int .i64 (v : Int)) (.slice (some ⟨gf, 0, none⟩) ks.length ks.length); rw [← hW7] at q7 z7 x0 x1 x2; have HQ7 := Lib.hid q7; have HZ7 := Lib.hid z7; have HY0 := Lib.hid x0; have HY1 := Lib.hid x1; have HY2 := Lib.hid x2; clear hW7 q7 z7 x0 x1 x2 sv s4)
        have hs6 := HS6.out
        have hz5 := HZ5.out
        have hws := HKk.out.size
        have hsw := HS3.out
        have hq5 := HQ5.out.size
        have hz7 := HZ7.out
        have hxz := HKx.out.size
        have hq7 := HQ7.out.size
        have hK2 := HKx.out.ext HMl1.out
        have HK25 := Lib.hid hK2
        have HKs2 := Lib.hid (Kp.start (w := W7) hK2)
        refine (wpIn_wide (n := 5)).1 ?_
        refine range_gives (gf := 195) (lb := #[.pointer (some ⟨U1.heap.size + 1, 0, none⟩), .pointer (some ⟨U1.heap.size, 0, none⟩), .pointer (some ⟨U1.heap.size + 2, 0, none⟩)]) rfl (enters_of Tryz.func195 (by kernel_rfl) rfl)
          (told_gives ks P c.V v Pa (some ⟨gf, 0, none⟩) kp ks.length ks.length (U1.heap.size + 1) U1.heap.size (U1.heap.size + 2) (Ext (Ext K2 W3 wr) W5 U1) W7 (by have := HLP.out; have := HVl.out; omega) HY1.out HY0.out HY2.out ⟨.inr (by omega), by omega⟩ ⟨.inr (by omega), by omega⟩ ⟨.inr (by omega), by omega⟩
            (HP3.out.toP (Nat.le_trans HK1.out.size HQ7.out.size) (fun p hp hl => HK1.out.cellq HQ7.out hl hp) (fun b h1 h2 => .inl ⟨.inl ⟨h1, h2⟩, by have := HKk.out.size; have := HQ5.out.size; omega⟩)) (HF3.out.toP (Nat.le_trans HK1.out.size HQ7.out.size) (fun p hp hl => HK1.out.cellq HQ7.out hl hp) (fun b h1 h2 => .inl ⟨.inl ⟨h1, h2⟩, by have := HKk.out.size; have := HQ5.out.size; omega⟩)) rfl (by have := HLP.out; have := HLV.out; omega) (HSP.out v)) (Q.refl _) (fun x => rfl)
          (fun pre M1 U => J ((edgesTo ks c.V P T k ++ (toldN ks c.V (rowG T v) v).map (fun w => (v, w))) ++ pre.map (fun w => (w, v))) M1 U ∧ Kp (Ext (Ext K2 W3 wr) W5 U1) W7 M1 U ∧ Mks dl1 W.heap.size U1.heap.size M1 U)
          ⟨fun pre M1 U U' row h gr hr => ⟨HJ.out.own _ _ _ _ row h.1 gr (fun r e => ⟨by have := (hr r e).1; omega, (hr r e).2⟩), h.2.1.own gr (fun r e => (hr r e).1), h.2.2.own gr (fun r e => by have := (hr r e).1; omega)⟩, fun pre M1 U h => HJ.out.lt _ _ _ h.1⟩
          M1 hK2 ⟨by rw [List.map_nil, List.append_nil]; exact HJ.out.q HJ1.out HQ7.out, HKs2.out, HMk1.out.q HQ7.out⟩
          (fun x => { tmps := #[.func (.yield l) #[] #[], .pointer (some ⟨Ba, 0, none⟩), .pointer (some ⟨Bg, 0, none⟩), .pointer (some ⟨W.heap.size, 0, none⟩), .slice (some ⟨gf, 0, none⟩) ks.length ks.length, undef, .pointer (some ⟨wr.heap.size, 0, none⟩), undef, .int .i64 (x : Int), .agg #[.slice A ks.length ca, .slice S ms d], .agg #[.slice F nr cr, .slice Av c.V.length k1, .slice D c.N.length k2, .slice E c.M.length k3, .slice Pa P.length kp, .slice Ta T.length kt], .slice (some ⟨gf, 0, none⟩) ks.length ks.length, .pointer (some ⟨Bg, 1, none⟩), .agg #[.slice Av c.V.length k1, .slice D c.N.length k2, .slice E c.M.length k3], .slice (some ⟨gr, 0, none⟩) (firstsN c.V).length cr2, .int .i64 ((firstsN c.V).length : Int), .int .i64 (k : Int), .bool true, .pointer (some ⟨gr, k, none⟩), .int .i64 (v : Int), .pointer (some ⟨Bg, 5, none⟩), .slice Ta T.length kt, .int .i64 (v : Int), .slice (some ⟨gf, 0, none⟩) ks.length ks.length, .func (.func 195) #[] #[.pointer (some ⟨W4.heap.size + 1, 0, none⟩), .pointer (some ⟨W4.heap.size, 0, none⟩), .pointer (some ⟨W4.heap.size + 2, 0, none⟩)], undef, undef, undef, undef, undef, undef, .pointer (some ⟨Bg, 4, none⟩), .slice Pa P.length kp, .int .i64 (v : Int), .slice (some ⟨gf, 0, none⟩) ks.length ks.length, .func (.func 195) #[] #[.pointer (some ⟨U1.heap.size + 1, 0, none⟩), .pointer (some ⟨U1.heap.size, 0, none⟩), .pointer (some ⟨U1.heap.size + 2, 0, none⟩)], .int .i64 (x : Int), undef, undef, undef, undef, undef, u42], defers := [] }) ?assign2 ?body2 ?done2
        case assign2 =>
          clear hs6 hz5 hws hsw hq5 hz7 hq7 hxz
          intro l' x U K' hK'
          gi_wp2
          exact hK'
        case body2 =>
          rintro l' pre x M2 U ⟨h1, h2, h3⟩ hx
          have hx5 := HKx.out.back HQ7.out h2
          have hb := HKk.out.back HQ5.out hx5
          obtain ⟨_, _, sy, _⟩ := ALL.out M2 U hb
          have sv : U.cell? ⟨wr.heap.size, 0, none⟩ = some (.int .i64 (v : Int)) := (hx5.cell (p := ⟨wr.heap.size, 0, none⟩) (by show wr.heap.size < _; omega) (.inr (Nat.le_refl _))).trans HB65.out
          have hY2 := HY.out ((edgesTo ks c.V P T k ++ (toldN ks c.V (rowG T v) v).map (fun w => (v, w))) ++ pre.map (fun w => (w, v))) (x, v) M2 U h1 (edges_in2 hlt HV.out.symm hx)
          obtain ⟨fn, tmps, assign, body, hy, hR⟩ := hY2
          have HR := Lib.hid hR
          have HH := Lib.hid h2
          have HHm := Lib.hid h3
          dsimp only at hy
          clear hR h1 h2 h3 hx hb hx5 hs6 hz5 hws hsw hq5 hz7 hq7 hxz
          gi_wp2
          refine RoundIn.mono (roundIn_any HR.out) ?_
          rintro e U' ⟨rfl, M3, hJ3, hG3, hF3⟩
          have HJ3 := Lib.hid hJ3
          have HG3 := Lib.hid hG3
          have HF3' := Lib.hid hF3
          clear hJ3 hG3 hF3
          gi_wp2
          exact ⟨M3, ⟨by rw [List.map_append, ← List.append_assoc]; exact HJ3.out, HH.out.fr HF3'.out HG3.out, HHm.out.fr HF3'.out HG3.out⟩, HG3.out, HF3'.out⟩
        case done2 =>
          rintro Dd2 M2 U2 ⟨h1, h2, h3⟩ hD hDM hdef
          have hx5 := HKx.out.back HQ7.out h2
          have HJ2 := Lib.hid h1
          have HK2' := Lib.hid (HKk.out.back HQ5.out hx5)
          have hDl := (Array.getElem?_eq_some_iff.1 hdef).1
          have HMk2 := Lib.hid (h3.cons (D := Dd2) (hi' := U2.heap.size) (by omega) (by omega) hDl hDM hdef)
          simp only [Exit.inBlock, Exit.then]
          clear h1 h2 h3 hD hDM hdef hDl hs6 hz5 hws hsw hq5 hK2 hx5 hz7 hq7 hxz
          have hkb : k < 1000000 := by have h1 := HLV.out; have h2 : (firstsN c.V).length ≤ c.V.length := Nat.le_trans (List.length_filter_le _ _) (by simp); omega
          go_wp2_with fail
          refine ⟨?_, ?_⟩
          · rw [HI.out]
            exact ⟨k + 1, M2, _, _, _, _, _, _, _, _, _, _, _, _, _, _, _, _, _, rfl, by go_num, by omega, by rw [edges_succ hlt HV.out.symm, ← List.append_assoc]; exact HJ2, HK2', HMk2⟩
          · simp [intOf]; omega
    · obtain rfl : k = (firstsN c.V).length := by omega
      have d1 : decide (((firstsN c.V).length : Int) < ((firstsN c.V).length : Int)) = false := decide_eq_false (by omega)
      have d2 : decide ((firstsN c.V).length < (firstsN c.V).length) = false := decide_eq_false (by omega)
      clear s4 s5 sy sf hlt
      go_wp2_with fail
      show LeavesInM Fence.wide 5 Tryz.prog Tryz.f134 _ _ dl .returning wr
      rw [edges_all] at HJk
      refine leave_marks (Z := fun U => J (edgesN ks c.V P T) M' U) (fun U r hz h1 h2 => HJ.out.own _ _ _ _ (some r) hz (grownBy_putObj' U r _) (fun r' e => by injection e with e; subst e; exact ⟨h1, h2⟩)) (fun U hz => ⟨_, results_none rfl _ _ _, ⟨_, rfl⟩, M', hz⟩) dl wr HMk.out HJk.out
end Go.Proofs.YtnifmfdlocgefaaGreat.Cy

namespace Go.Proofs
open Go.Shelf
def Tryz.lays189_ren : Go.Shelf.Ren := ⟨fun | 189 => 67 | 125 => 138 | 257 => 137 | 128 => 205 | 129 => 206 | 294 => 196 | 295 => 197 | 296 => 198 | 297 => 199 | 298 => 200 | 299 => 201 | 216 => 202 | 300 => 203 | 301 => 204 | 328 => 268 | 329 => 269 | 330 => 270 | 331 => 271 | 332 => 272 | 215 => 273 | 343 => 312 | n => n, fun | 28 => 24 | 3 => 3 | 46 => 191 | 0 => 0 | 51 => 166 | 53 => 230 | 4 => 4 | 183 => 243 | 182 => 242 | 131 => 246 | 5 => 5 | 9 => 9 | 218 => 299 | 222 => 303 | 228 => 326 | 229 => 280 | n => n, fun | n => n⟩
theorem Tryz.lays189 : Go.Proofs.Lays.n189 Tryz.prog Tryz.lays189_ren := {
  mixed := by kernel_rfl
  f125 := Tryz.func138.trans (congrArg some (by kernel_rfl))
  f128 := Tryz.func205.trans (congrArg some (by kernel_rfl))
  f129 := Tryz.func206.trans (congrArg some (by kernel_rfl))
  f189 := Tryz.func67.trans (congrArg some (by kernel_rfl))
  f215 := Tryz.func273.trans (congrArg some (by kernel_rfl))
  f216 := Tryz.func202.trans (congrArg some (by kernel_rfl))
  f257 := Tryz.func137.trans (congrArg some (by kernel_rfl))
  f294 := Tryz.func196.trans (congrArg some (by kernel_rfl))
  f295 := Tryz.func197.trans (congrArg some (by kernel_rfl))
  f296 := Tryz.func198.trans (congrArg some (by kernel_rfl))
  f297 := Tryz.func199.trans (congrArg some (by kernel_rfl))
  f298 := Tryz.func200.trans (congrArg some (by kernel_rfl))
  f299 := Tryz.func201.trans (congrArg some (by kernel_rfl))
  f300 := Tryz.func203.trans (congrArg some (by kernel_rfl))
  f301 := Tryz.func204.trans (congrArg some (by kernel_rfl))
  f328 := Tryz.func268.trans (congrArg some (by kernel_rfl))
  f329 := Tryz.func269.trans (congrArg some (by kernel_rfl))
  f330 := Tryz.func270.trans (congrArg some (by kernel_rfl))
  f331 := Tryz.func271.trans (congrArg some (by kernel_rfl))
  f332 := Tryz.func272.trans (congrArg some (by kernel_rfl))
  f343 := Tryz.func312.trans (congrArg some (by kernel_rfl))
  t0 := Tryz.underlying0
  a0 := Tryz.isAgg0
  z0 := Tryz.sizeOf0
  v0 := Tryz.zeroValue0
  t3 := Tryz.underlying3
  a3 := Tryz.isAgg3
  z3 := Tryz.sizeOf3
  v3 := Tryz.zeroValue3
  t4 := Tryz.underlying4
  a4 := Tryz.isAgg4
  z4 := Tryz.sizeOf4
  v4 := Tryz.zeroValue4
  t5 := Tryz.underlying5
  a5 := Tryz.isAgg5
  z5 := Tryz.sizeOf5
  v5 := Tryz.zeroValue5
  t9 := Tryz.underlying9
  a9 := Tryz.isAgg9
  z9 := Tryz.sizeOf9
  v9 := Tryz.zeroValue9
  t28 := Tryz.underlying24
  a28 := Tryz.isAgg24
  z28 := Tryz.sizeOf24
  v28 := Tryz.zeroValue24
  t46 := Tryz.underlying191
  a46 := Tryz.isAgg191
  z46 := Tryz.sizeOf191
  v46 := Tryz.zeroValue191
  t51 := Tryz.underlying166
  a51 := Tryz.isAgg166
  z51 := Tryz.sizeOf166
  v51 := Tryz.zeroValue166
  t53 := Tryz.underlying230
  a53 := Tryz.isAgg230
  z53 := Tryz.sizeOf230
  v53 := Tryz.zeroValue230
  t131 := Tryz.underlying246
  a131 := Tryz.isAgg246
  z131 := Tryz.sizeOf246
  v131 := Tryz.zeroValue246
  t182 := Tryz.underlying242
  a182 := Tryz.isAgg242
  z182 := Tryz.sizeOf242
  v182 := Tryz.zeroValue242
  t183 := Tryz.underlying243
  a183 := Tryz.isAgg243
  z183 := Tryz.sizeOf243
  v183 := Tryz.zeroValue243
  t218 := Tryz.underlying299
  a218 := Tryz.isAgg299
  z218 := Tryz.sizeOf299
  v218 := Tryz.zeroValue299
  t222 := Tryz.underlying303
  a222 := Tryz.isAgg303
  z222 := Tryz.sizeOf303
  v222 := Tryz.zeroValue303
  t228 := Tryz.underlying326
  a228 := Tryz.isAgg326
  z228 := Tryz.sizeOf326
  v228 := Tryz.zeroValue326
  t229 := Tryz.underlying280
  a229 := Tryz.isAgg280
  z229 := Tryz.sizeOf280
  v229 := Tryz.zeroValue280 }
open Go.Sort Go.RowKit in
theorem Tryz.slices_Sort_int (blk off cap : Nat) (zs : List Int) (w : World) (hH : Holds (Value.int .i64) w blk off zs.toArray) (hblk : blk < w.heap.size) (hsz : zs.length < 4611686018427387904) :
    Calls Tryz.prog 67 #[.slice (some ⟨blk, off, none⟩) zs.length cap] w fun e w' =>
      e = .returned (.tuple #[]) ∧ ∃ n os, w' = grow (putRow (Value.int .i64) (Sort.ahead w n) blk off (zs.mergeSort fun x y => decide (x ≤ y)).toArray) os := Any.slices_Sort_int Tryz.lays189 blk off cap zs w hH hblk hsz
def Tryz.lays112_ren : Go.Shelf.Ren := ⟨fun | 112 => 143 | n => n, fun | 28 => 24 | 3 => 3 | 4 => 4 | 0 => 0 | n => n, fun | n => n⟩
theorem Tryz.lays112 : Go.Proofs.Lays.n112 Tryz.prog Tryz.lays112_ren := {
  mixed := by kernel_rfl
  f112 := Tryz.func143.trans (congrArg some (by kernel_rfl))
  t0 := Tryz.underlying0
  a0 := Tryz.isAgg0
  z0 := Tryz.sizeOf0
  v0 := Tryz.zeroValue0
  t3 := Tryz.underlying3
  a3 := Tryz.isAgg3
  z3 := Tryz.sizeOf3
  v3 := Tryz.zeroValue3
  t4 := Tryz.underlying4
  a4 := Tryz.isAgg4
  z4 := Tryz.sizeOf4
  v4 := Tryz.zeroValue4
  t28 := Tryz.underlying24
  a28 := Tryz.isAgg24
  z28 := Tryz.sizeOf24
  v28 := Tryz.zeroValue24 }
open Go.RowKit Go.Lib Go.Sort in
theorem Tryz.slices_Reverse_int (blk off cap : Nat) (zs : List Int) (w : World) (hH : Holds (Value.int .i64) w blk off zs.toArray) (hsz : zs.length ≤ 9223372036854775807) :
    Calls Tryz.prog 143 #[.slice (some ⟨blk, off, none⟩) zs.length cap] w fun e w' => e = .returned (.tuple #[]) ∧ ∃ n, w' = putRow (Value.int .i64) (Sort.ahead w n) blk off zs.reverse.toArray := Any.slices_Reverse_int Tryz.lays112 blk off cap zs w hH hsz
open Go.RowKit Go.Lib Go.Sort in
theorem Tryz.slices_Reverse_int_empty (a : Option Addr) (cap : Nat) (w : World) :
    Calls Tryz.prog 143 #[.slice a 0 cap] w fun e w' => e = .returned (.tuple #[]) ∧ w' = w := Any.slices_Reverse_int_empty Tryz.lays112 a cap w
def Tryz.laysNm220_ren : Go.Shelf.Ren := ⟨fun | 20 => 68 | n => n, fun | 22 => 24 | 3 => 3 | 4 => 4 | 0 => 0 | n => n, fun | n => n⟩
theorem Tryz.laysNm220 : Go.Proofs.Lays2.n20 Tryz.prog Tryz.laysNm220_ren := {
  mixed := by kernel_rfl
  f20 := Tryz.func68.trans (congrArg some (by kernel_rfl))
  t0 := Tryz.underlying0
  a0 := Tryz.isAgg0
  z0 := Tryz.sizeOf0
  v0 := Tryz.zeroValue0
  t3 := Tryz.underlying3
  a3 := Tryz.isAgg3
  z3 := Tryz.sizeOf3
  v3 := Tryz.zeroValue3
  t4 := Tryz.underlying4
  a4 := Tryz.isAgg4
  z4 := Tryz.sizeOf4
  v4 := Tryz.zeroValue4
  t22 := Tryz.underlying24
  a22 := Tryz.isAgg24
  z22 := Tryz.sizeOf24
  v22 := Tryz.zeroValue24
  i3 := by kernel_rfl }
open Go.RowKit Go.Lib Go.Sort in
theorem Tryz.slices_Compact_int (blk off cap : Nat) (zs : List Int) (w : World) (hH : Holds (Value.int .i64) w blk off zs.toArray) (hsz : zs.length ≤ 9223372036854775807) (hcap : zs.length ≤ cap) :
    Calls Tryz.prog 68 #[.slice (some ⟨blk, off, none⟩) zs.length cap] w fun e w' => e = .returned (.slice (some ⟨blk, off, none⟩) (Lib.compact zs).length cap) ∧ ∃ q, w' = putRow (Value.int .i64) (Sort.ahead w q) blk off (Lib.compact zs ++ List.replicate (zs.length - (Lib.compact zs).length) 0).toArray := Any.slices_Compact_int Tryz.laysNm220 blk off cap zs w hH hsz hcap
open Go.RowKit Go.Lib Go.Sort in
theorem Tryz.slices_Compact_int_empty (a : Option Addr) (cap : Nat) (w : World) :
    Calls Tryz.prog 68 #[.slice a 0 cap] w fun e w' => e = .returned (.slice a 0 cap) ∧ w' = w := Any.slices_Compact_int_empty Tryz.laysNm220 a cap w
open Go.RowKit Go.Sort in
theorem Tryz.slices_Sort_int_none (p : Option Addr) (cap : Nat) (w : World) :
    Calls Tryz.prog 67 #[.slice p 0 cap] w fun e w' => e = .returned (.tuple #[]) ∧ w' = w := Any.slices_Sort_int_none Tryz.lays189 p cap w
end Go.Proofs

namespace Go.Proofs.YtnifmfdlocgefaaGreat.Cy
open Go Go.RowKit Go.Lib Go.Sort Go.Shelf Kit Uf Ig Tr

/-- a row of numbers of a call's own, or none -/
def RowAt (w : World) (base : Nat) (u : Value) (l : List Int) : Prop := ∃ A c, u = .slice A l.length c ∧ l.length ≤ c ∧ OwnO w base A (cellsI l)
theorem rowAt_of {w : World} {base n : Nat} {u : Value} {l : List Int} (h : w.ownsRow base 3 1 u n (cellsI l)) (hn : n = l.length) : RowAt w base u l := by
  subst hn
  exact own_o h
theorem row_holds {w : World} {g : Nat} {l : List Int} (h : OwnC w g (cellsI l)) : Holds (Value.int .i64) w g 0 l.toArray := fun j hj => by
  have hj' : j < l.length := by simpa using hj
  rw [Nat.zero_add]
  have h1 := h.2 j _ (cellsI_at hj')
  rw [show l.toArray[j]! = l[j] by simp [hj']]
  exact h1
theorem holds_own {w : World} {g : Nat} {l : List Int} (h : Holds (Value.int .i64) w g 0 l.toArray) (hg : g < w.heap.size) : OwnC w g (cellsI l) := ⟨hg, fun j v hv => by
  have hj : j < l.length := by have := (List.getElem?_eq_some_iff.1 hv).1; rwa [cellsI_len] at this
  rw [cellsI_at hj] at hv
  injection hv with hv
  have h1 := h j (by simpa using hj)
  rw [Nat.zero_add, show l.toArray[j]! = l[j] by simp [hj]] at h1
  rw [← hv]
  exact h1⟩
theorem holds_take {w : World} {g : Nat} {l m : List Int} (h : Holds (Value.int .i64) w g 0 (l ++ m).toArray) : Holds (Value.int .i64) w g 0 l.toArray := fun j hj => by
  have hj' : j < l.length := by simpa using hj
  have h1 := h j (by simp; omega)
  have e : (l ++ m).toArray[j]! = l.toArray[j]! := by simp [hj', List.getElem_append_left, show j < l.length + m.length by omega]
  rw [e] at h1
  exact h1
theorem grow_putRow (w : World) (n blk : Nat) (d : Array Int) (os : Array Obj) : w.grownBy (grow (putRow (Value.int .i64) (Sort.ahead w n) blk 0 d) os) (some blk) := by
  refine ⟨rfl, rfl, rfl, by simp, fun i hi hb => ?_⟩
  unfold grow putRow mapBlock Sort.ahead
  show ((w.heap.modify blk _) ++ os)[i]? = _
  rw [Array.getElem?_append_left (by simpa using hi), Array.getElem?_modify, if_neg (fun e => hb (by rw [e]))]
theorem ahead_putRow (w : World) (n blk : Nat) (d : Array Int) : w.grownBy (putRow (Value.int .i64) (Sort.ahead w n) blk 0 d) (some blk) := by
  have := grow_putRow w n blk d #[]
  rwa [grow_empty] at this
theorem grown_none (w : World) (row : Option Nat) : w.grownBy w row := ⟨rfl, rfl, rfl, Nat.le_refl _, fun _ _ _ => rfl⟩
theorem sortI_any (base : Nat) (u : Value) (l : List Int) (w : World) (h : RowAt w base u l) (hl : l.length ≤ 1000000) :
    Calls Tryz.prog 67 #[u] w fun e w' => e = .returned (.tuple #[]) ∧ RowAt w' base u (sortI l) ∧ w.grownBy w' u.ownBlock := by
  obtain ⟨A, c, rfl, hc, ho⟩ := h
  have hsl := sortI_len l
  by_cases h0 : 0 < l.length
  · obtain ⟨g, rfl, hg, hO⟩ := ho (by rw [cellsI_len]; exact h0)
    refine (Tryz.slices_Sort_int g 0 c l w (row_holds hO) hO.1 (by omega)).mono ?_
    rintro e w' ⟨rfl, n, os, rfl⟩
    refine ⟨rfl, ⟨_, c, by rw [hsl], by omega, fun _ => ⟨g, rfl, hg, ?_⟩⟩, grow_putRow w n g _ os⟩
    have hp : Holds (Value.int .i64) (putRow (Value.int .i64) (Sort.ahead w n) g 0 (sortI l).toArray) g 0 (sortI l).toArray := holds_putRow _ _ _ _ l.toArray _ (holds_ahead _ _ _ _ _ _ (row_holds hO)) (by simp [hsl])
    have hq := holds_own hp (by simp; exact hO.1)
    have q : Q (putRow (Value.int .i64) (Sort.ahead w n) g 0 (sortI l).toArray) (grow (putRow (Value.int .i64) (Sort.ahead w n) g 0 (sortI l).toArray) os) := ⟨rfl, rfl, rfl, by simp, fun i hi => by
      unfold grow
      show (_ ++ os)[i]? = _
      rw [Array.getElem?_append_left hi]⟩
    exact hq.q q
  · have e0 : l = [] := List.eq_nil_of_length_eq_zero (by omega)
    subst e0
    refine (Tryz.slices_Sort_int_none A c w).mono ?_
    rintro e w' ⟨rfl, rfl⟩
    have es : sortI [] = [] := List.eq_nil_of_length_eq_zero (sortI_len [])
    rw [es]
    exact ⟨rfl, ⟨A, c, rfl, hc, fun h => by simp [cellsI] at h⟩, grown_none _ _⟩
theorem compactI_any (base : Nat) (u : Value) (l : List Int) (w : World) (h : RowAt w base u l) (hl : l.length ≤ 1000000) :
    Calls Tryz.prog 68 #[u] w fun e w' => ∃ v, e = .returned v ∧ RowAt w' base v (Lib.compact l) ∧ w.grownBy w' u.ownBlock := by
  obtain ⟨A, c, rfl, hc, ho⟩ := h
  have hcl := compact_length_le l
  by_cases h0 : 0 < l.length
  · obtain ⟨g, rfl, hg, hO⟩ := ho (by rw [cellsI_len]; exact h0)
    refine (Tryz.slices_Compact_int g 0 c l w (row_holds hO) (by omega) hc).mono ?_
    rintro e w' ⟨rfl, n, rfl⟩
    refine ⟨_, rfl, ⟨_, c, rfl, by omega, fun _ => ⟨g, rfl, hg, ?_⟩⟩, ahead_putRow w n g _⟩
    have hp : Holds (Value.int .i64) (putRow (Value.int .i64) (Sort.ahead w n) g 0 (Lib.compact l ++ List.replicate (l.length - (Lib.compact l).length) 0).toArray) g 0 (Lib.compact l ++ List.replicate (l.length - (Lib.compact l).length) 0).toArray :=
      holds_putRow _ _ _ _ l.toArray _ (holds_ahead _ _ _ _ _ _ (row_holds hO)) (by simp; omega)
    exact holds_own (holds_take hp) (by simp; exact hO.1)
  · have e0 : l = [] := List.eq_nil_of_length_eq_zero (by omega)
    subst e0
    refine (Tryz.slices_Compact_int_empty A c w).mono ?_
    rintro e w' ⟨rfl, rfl⟩
    exact ⟨_, rfl, ⟨A, c, rfl, hc, fun h => by simp [cellsI, Lib.compact, Lib.compactUpTo] at h⟩, grown_none _ _⟩
/-- what is left of a sorted row: each once, rising -/
theorem compact_rising {l : List Int} (h : l.Pairwise (· ≤ ·)) : (Lib.compact l).Pairwise (· < ·) ∧ ∀ x, x ∈ Lib.compact l ↔ x ∈ l := by
  have hle : ∀ i j, i ≤ j → j < l.length → l.toArray[i]! ≤ l.toArray[j]! := fun i j hij hj => by
    rw [show l.toArray[i]! = l[i]'(by omega) by simp [show i < l.length by omega], show l.toArray[j]! = l[j] by simp [hj]]
    rcases Nat.lt_or_ge i j with hlt | hge
    · exact List.pairwise_iff_getElem.1 h i j (by omega) hj hlt
    · obtain rfl : i = j := by omega
      exact Int.le_refl _
  have key : ∀ m, m ≤ l.length → (Lib.compactUpTo l.toArray m).Pairwise (· < ·) ∧ (∀ x ∈ Lib.compactUpTo l.toArray m, ∃ i, i < m ∧ x = l.toArray[i]!) ∧ ∀ i, i < m → l.toArray[i]! ∈ Lib.compactUpTo l.toArray m := by
    intro m
    induction m with
    | zero => exact fun _ => ⟨by simp [Lib.compactUpTo], fun x hx => by simp [Lib.compactUpTo] at hx, fun i hi => absurd hi (Nat.not_lt_zero _)⟩
    | succ m ih =>
      intro hm
      obtain ⟨i1, i2, i3⟩ := ih (by omega)
      rw [Lib.compactUpTo_succ]
      by_cases hk : Lib.keeps l.toArray m = true
      · rw [if_pos hk]
        refine ⟨List.pairwise_append.2 ⟨i1, List.pairwise_singleton _ _, fun x hx y hy => ?_⟩, fun x hx => ?_, fun i hi => ?_⟩
        · obtain rfl := List.mem_singleton.1 hy
          obtain ⟨i, hi, rfl⟩ := i2 x hx
          unfold Lib.keeps at hk
          have hk := of_decide_eq_true hk
          have h1 := hle i (m - 1) (by omega) (by omega)
          have h2 := hle (m - 1) m (by omega) (by omega)
          have h3 := hk.resolve_left (by omega)
          omega
        · rcases List.mem_append.1 hx with hx | hx
          · obtain ⟨i, hi, e⟩ := i2 x hx
            exact ⟨i, by omega, e⟩
          · exact ⟨m, by omega, List.mem_singleton.1 hx⟩
        · rcases Nat.lt_or_ge i m with hi' | hi'
          · exact List.mem_append_left _ (i3 i hi')
          · obtain rfl : i = m := by omega
            exact List.mem_append_right _ (List.mem_singleton_self _)
      · rw [if_neg hk, List.append_nil]
        refine ⟨i1, fun x hx => ?_, fun i hi => ?_⟩
        · obtain ⟨i, hi, e⟩ := i2 x hx
          exact ⟨i, by omega, e⟩
        · rcases Nat.lt_or_ge i m with hi' | hi'
          · exact i3 i hi'
          · obtain rfl : i = m := by omega
            unfold Lib.keeps at hk
            have hk : ¬ (i = 0 ∨ l.toArray[i]! ≠ l.toArray[i - 1]!) := fun hh => hk (decide_eq_true hh)
            have h1 : i ≠ 0 := fun e => hk (.inl e)
            have h2 : l.toArray[i]! = l.toArray[i - 1]! := Classical.not_not.1 (fun e => hk (.inr e))
            rw [h2]
            exact i3 (i - 1) (by omega)
  obtain ⟨k1, k2, k3⟩ := key l.length (Nat.le_refl _)
  refine ⟨k1, fun x => ⟨fun hx => ?_, fun hx => ?_⟩⟩
  · obtain ⟨i, hi, rfl⟩ := k2 x hx
    rw [show l.toArray[i]! = l[i] by simp [hi]]
    exact List.getElem_mem hi
  · obtain ⟨i, hi, rfl⟩ := List.getElem_of_mem hx
    have := k3 i hi
    rwa [show l.toArray[i]! = l[i] by simp [hi]] at this
/-- what is next, as the program reckons it -/
def toOf (es : List (Nat × Nat)) (f : Nat) : List Int := (es.filter fun e => e.1 == f).map fun e => (e.2 : Int)
theorem toOf_snoc (es : List (Nat × Nat)) (e : Nat × Nat) (f : Nat) : toOf (es ++ [e]) f = if e.1 = f then toOf es f ++ [(e.2 : Int)] else toOf es f := by
  unfold toOf
  rw [List.filter_append, List.map_append]
  by_cases h : e.1 = f
  · rw [if_pos h]; simp [h]
  · rw [if_neg h]; simp [h]
theorem toOf_mem {es : List (Nat × Nat)} {f : Nat} {x : Int} : x ∈ toOf es f ↔ ∃ n : Nat, (f, n) ∈ es ∧ x = (n : Int) := by
  unfold toOf
  simp only [List.mem_map, List.mem_filter, beq_iff_eq]
  constructor
  · rintro ⟨⟨a, b⟩, ⟨h1, rfl⟩, rfl⟩; exact ⟨b, h1, rfl⟩
  · rintro ⟨n, h1, rfl⟩; exact ⟨(f, n), ⟨h1, rfl⟩, rfl⟩
theorem toOf_len (es : List (Nat × Nat)) (f : Nat) : (toOf es f).length ≤ es.length := by
  unfold toOf
  rw [List.length_map]
  exact List.length_filter_le _ _
theorem next_is {R V : List Int} {ks P T : List (List Int)} (hC : Cl R V) (f : Nat) : Lib.compact (sortI (toOf (edgesN ks V P T) f)) = nextL ks V P T f := by
  obtain ⟨h1, h2⟩ := compact_rising (sortI_sorted (toOf (edgesN ks V P T) f))
  unfold nextL
  refine those_is h1 fun x => ?_
  rw [h2, (sortI_perm _).mem_iff, toOf_mem]
  constructor
  · rintro ⟨n, h, rfl⟩
    have h := (mem_edges hC).1 h
    exact ⟨n, (eB_of h).2.1.1, h, rfl⟩
  · rintro ⟨n, _, h, rfl⟩
    exact ⟨n, (mem_edges hC).2 h, rfl⟩
theorem edges13_any (a1 a2 : Value) (g1 g2 g3 g4 g5 g6 : Value) (w : World) :
    Calls Tryz.prog 66 #[.agg #[a1, a2], .agg #[g1, g2, g3, g4, g5, g6]] w fun e w' => e = .returned (.func (.func 134) #[] #[.pointer (some ⟨w.heap.size, 0, none⟩), .pointer (some ⟨w.heap.size + 1, 0, none⟩)]) ∧ w' = (w.alloc (.cells #[a1, a2] 26)).alloc (.cells #[g1, g2, g3, g4, g5, g6] 31) := by
  go_enter Tryz.func66, Tryz.ntmps66
  go_wp2_with fail
  go_ret
  exact ⟨rfl, rfl⟩
end Go.Proofs.YtnifmfdlocgefaaGreat.Cy

namespace Go.Proofs.YtnifmfdlocgefaaGreat.Cy
open Go Go.RowKit Go.Lib Go.Sort Go.Shelf Kit Uf Ig Tr

/-- append, in a round, with where the row lies then -/
theorem wpListIn_append_at {F : Fence} {n : Nat} {P : Program} (w : World) {ops : Array Oper} {rest : List Oper} {o : Oper} {a : Act} {Q : Exit → Act → World → Prop}
    (hg : o.guard = none) (s x : Operand) (t : TypeId) (hop : o.op = Op.call { callee := Callee.builtin Builtin.append, args := #[s, x], argTypes := #[t, t] })
    (base : Nat) (e : TypeId) (i : TypeInfo) (z : Value) (size bytes : Nat) (h1 : P.underlying t = some (.slice e)) (h2 : P.info? e = some i) (h3 : i.zero = some z) (h4 : i.size = size) (h5 : i.bytes = bytes) (h6 : z.cells.size = size) (h7 : 0 < size)
    (v : Value) (k : Nat) (xs : List Value) (hs : a.eval s = v) (hown : w.ownsRow base e size v k xs) (ad : Addr) (m c : Nat) (news : List Value) (hx : a.eval x = .slice (some ad) m c) (hn : news.length = m * size)
    (hc : ∀ j u, news[j]? = some u → w.cell? (ad.add j) = some u) (h1c : ∀ u ∈ news, u.oneCell' = true) (b1 : k + m ≤ maxLen) (b2 : (k + m) * bytes ≤ 140737488355328) (b3 : base ≤ w.heap.size)
    (hK : ∀ v' w', w'.ownsRow base e size v' (k + m) (xs ++ news) → w.grownBy w' v.ownBlock → (v'.ownBlock = v.ownBlock ∨ v'.ownBlock = some w.heap.size) → wpListIn F n P ops Q rest (a.put o.dst v') w') :
    wpListIn F n P ops Q (o :: rest) a w := by
  obtain ⟨v', w', hrun, r1, r2, _, r4⟩ := run_append_own_at (P := P) w base t o.type e i z size bytes h1 h2 h3 h4 h5 h6 h7 v k xs hown ad m c news hn hc h1c b1 b2 b3
  refine wpListIn_plain hg fun K hK' => ?_
  unfold Oper.wpIn
  refine ⟨by simp [Oper.about, hop, resolve, Target.leads, Sem.run_pure], ?_⟩
  rw [Oper.semAt_plain F _ _ (by rw [hop]; intro c hc'; cases hc')]
  simp [execOp, hop, resolve, invoke, builtin, hs, hx, hrun, Result.andThen]
  exact hK' _ _ (hK v' w' r1 r2 r4)

theorem Fr.of_row {M : Nat → Prop} {A B : World} {row : Option Nat} (g : A.grownBy B row) (h : ∀ r, row = some r → M r) : Fr M A B := ⟨g.os, g.tape, g.output, g.size, fun k hk hM => g.block k hk (fun e => hM (h k e.symm))⟩
theorem cell_grown {U U' : World} {row : Option Nat} {p : Addr} {v : Value} (g : U.grownBy U' row) (h : U.cell? p = some v) (hr : ∀ r, row = some r → r ≠ p.block) : U'.cell? p = some v := by
  have hlt := World.block_lt_of_cell? _ _ h
  have hb := g.block p.block hlt (fun e => hr _ e.symm rfl)
  rw [World.cell?_of_block hb]; exact h
theorem frozen_grown {U U' : World} {row : Option Nat} {p : Addr} {v : Value} (g : U.grownBy U' row) (h : U.cell? p = some v) (hr : ∀ r, row = some r → r ≠ p.block) : U'.frozen? p = U.frozen? p := by
  have hlt := World.block_lt_of_cell? _ _ h
  have hb := g.block p.block hlt (fun e => hr _ e.symm rfl)
  unfold World.frozen?
  rw [hb]
theorem q_grown {w U U' : World} {row : Option Nat} (q : Q w U) (g : U.grownBy U' row) (hr : ∀ r, row = some r → w.heap.size ≤ r) : Q w U' := Below.grown q g q.size hr

def NxI (w0 : World) (base B7 B8 f : Nat) (pre : List (Nat × Nat)) (M : Nat → Prop) (U : World) : Prop :=
  ∃ v, (∀ b, M b ↔ (b = B8 ∨ v.ownBlock = some b)) ∧ U.cell? ⟨B8, 0, none⟩ = some v ∧ U.frozen? ⟨B8, 0, none⟩ = false ∧ U.ownsRow base 3 1 v (toOf pre f).length (cellsI (toOf pre f)) ∧ U.cell? ⟨B7, 0, none⟩ = some (.int .i64 (f : Int)) ∧ base ≤ U.heap.size ∧ Q w0 U
theorem NxI.mind {w0 : World} {base B7 B8 f : Nat} (h7 : B7 < base) (h8 : B8 < base) (hw : w0.heap.size ≤ base) : Mind base (NxI w0 base B7 B8 f) where
  own := by
    rintro pre M W W' row ⟨v, hM, b8, f8, own, b7, hs, q⟩ g hr
    refine ⟨v, hM, cell_grown g b8 (fun r e => by have := (hr r e).1; show r ≠ B8; omega), (frozen_grown g b8 (fun r e => by have := (hr r e).1; show r ≠ B8; omega)).trans f8, own.kept g (by
      cases row with
      | none => exact Decidable.byCases (fun e => .inl e) (fun e => .inr e)
      | some r => exact .inr (fun e => (hr r rfl).2 ((hM r).2 (.inr e)))), cell_grown g b7 (fun r e => by have := (hr r e).1; show r ≠ B7; omega), Nat.le_trans hs g.size, q_grown q g (fun r e => by have := (hr r e).1; omega)⟩
  lt := by
    rintro pre M W ⟨v, hM, b8, f8, own, b7, hs, q⟩ k hk
    rcases (hM k).1 hk with rfl | e
    · omega
    · exact (own.lt k e).2
theorem NxI.skip {w0 : World} {base B7 B8 f : Nat} {pre : List (Nat × Nat)} {x : Nat × Nat} {M : Nat → Prop} {U : World} (h : NxI w0 base B7 B8 f pre M U) (hx : x.1 ≠ f) : NxI w0 base B7 B8 f (pre ++ [x]) M U := by
  obtain ⟨v, hM, b8, f8, own, b7, hs, q⟩ := h
  exact ⟨v, hM, b8, f8, by rw [toOf_snoc, if_neg hx]; exact own, b7, hs, q⟩
theorem NxI.add {w0 : World} {base B7 B8 f : Nat} {pre : List (Nat × Nat)} {x : Nat × Nat} {M : Nat → Prop} {U Ua U' : World} {v v' : Value} (h7 : B7 < base) (h8 : B8 < base) (h78 : B7 ≠ B8) (hw : w0.heap.size ≤ B8)
    (hM : ∀ b, M b ↔ (b = B8 ∨ v.ownBlock = some b)) (b8 : U.cell? ⟨B8, 0, none⟩ = some v) (f8 : U.frozen? ⟨B8, 0, none⟩ = false) (own : U.ownsRow base 3 1 v (toOf pre f).length (cellsI (toOf pre f))) (b7 : U.cell? ⟨B7, 0, none⟩ = some (.int .i64 (f : Int))) (hs : base ≤ U.heap.size) (q : Q w0 U)
    (hx : x.1 = f) (qa : Q U Ua) (hsa : Ua.heap.size = U.heap.size + 1) (own' : U'.ownsRow base 3 1 v' ((toOf pre f).length + 1) (cellsI (toOf pre f) ++ [.int .i64 (x.2 : Int)])) (g : Ua.grownBy U' v.ownBlock) (hat : v'.ownBlock = v.ownBlock ∨ v'.ownBlock = some Ua.heap.size) :
    ∃ M', NxI w0 base B7 B8 f (pre ++ [x]) M' (U'.setCell ⟨B8, 0, none⟩ v') ∧ Gr M M' U ∧ Fr M U (U'.setCell ⟨B8, 0, none⟩ v') := by
  have hvb : ∀ r, v.ownBlock = some r → base ≤ r ∧ r < U.heap.size := fun r e => own.lt r e
  have a8 := (qa.cell (p := ⟨B8, 0, none⟩) (World.block_lt_of_cell? _ _ b8)).trans b8
  have a7 := (qa.cell (p := ⟨B7, 0, none⟩) (World.block_lt_of_cell? _ _ b7)).trans b7
  have c8 := cell_grown g a8 (fun r e => by have := (hvb r e).1; show r ≠ B8; omega)
  have c7 := cell_grown g a7 (fun r e => by have := (hvb r e).1; show r ≠ B7; omega)
  have k8 := (frozen_grown g a8 (fun r e => by have := (hvb r e).1; show r ≠ B8; omega)).trans ((qa.frozen (p := ⟨B8, 0, none⟩) (World.block_lt_of_cell? _ _ b8)).trans f8)
  have gs := setCell_grown U' B8 0 v'
  refine ⟨fun b => b = B8 ∨ v'.ownBlock = some b, ⟨v', fun b => Iff.rfl, World.cell?_setCell_same' _ _ _ (by rw [c8]; rfl), by rw [World.frozen?_setCell]; exact k8, ?_, cell_grown gs c7 (fun r e => by injection e with e; subst e; exact fun e => h78 e.symm), ?_, ?_⟩, ?_, ?_⟩
  · rw [toOf_snoc, if_pos hx, cellsI_append, List.length_append]
    exact own'.kept gs (.inr (fun e => by have := (own'.lt _ e).1; omega))
  · have := g.size; have := gs.size; have := qa.size; omega
  · exact q_grown (q_grown (q.trans qa) g (fun r e => by have := (hvb r e).1; omega)) gs (fun r e => by injection e with e; subst e; exact hw)
  · intro k hk
    rcases hk with rfl | e
    · exact .inl ((hM _).2 (.inl rfl))
    · rcases hat with h | h
      · exact .inl ((hM k).2 (.inr (h ▸ e)))
      · rw [h] at e; injection e with e; subst e; exact .inr (by omega)
  · exact ((Fr.of_q (M := M) qa).trans (Gr.refl _ _) (Fr.of_row g (fun r e => (hM r).2 (.inr e)))).trans (Gr.refl _ _) (Fr.of_grown gs ((hM B8).2 (.inl rfl)))
end Go.Proofs.YtnifmfdlocgefaaGreat.Cy
