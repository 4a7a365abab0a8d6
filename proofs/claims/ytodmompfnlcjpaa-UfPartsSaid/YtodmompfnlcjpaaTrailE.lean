/-
  Contracts of restore and of takeBack over rows: notes that can be taken back are, in place.
-/
import Derived.Test.YtodmompfnlcjpaaTrailD
namespace Go.Proofs.Ytodmompfnlcjpaa.Tr
open Go.RowKit Kit

theorem back1_new {was : Int} {v v' : List Int} (h : back1 (-1, was) v = some v') : 0 < v.length ∧ v' = v.take (v.length - 1) := by
  unfold back1 at h
  rw [if_pos rfl] at h
  by_cases h0 : v.length = 0
  · rw [if_pos h0] at h; cases h
  · rw [if_neg h0] at h; injection h with h; exact ⟨by omega, h.symm⟩
theorem back1_old {n : Note} {v v' : List Int} (hn : n.1 ≠ -1) (h : back1 n v = some v') : ∃ a : Nat, n.1 = a ∧ a < v.length ∧ v' = v.set a n.2 := by
  unfold back1 at h
  rw [if_neg hn] at h
  by_cases h0 : 0 ≤ n.1 ∧ n.1 < v.length
  · rw [if_pos h0] at h; injection h with h; exact ⟨n.1.toNat, by omega, by omega, h.symm⟩
  · rw [if_neg h0] at h; cases h
def RestPost (g K : Nat) (v' : List Int) (w : World) (e : Ending) (w' : World) : Prop :=
  e = .returned (.tuple #[.slice (some ⟨g, 0, none⟩) v'.length K, .bool true]) ∧ OwnC w' g (cellsI v') ∧ w.grownBy w' (some g)

theorem q_grown {a b c : World} {row : Option Nat} (q : Q a b) (h : b.grownBy c row) : a.grownBy c row := grown_trans (grows_q q row) h
set_option maxRecDepth 100000 in
set_option maxHeartbeats 1000000 in
theorem restore_any (n : Note) (v v' : List Int) (g K : Nat) (w : World) (hO : OwnC w g (cellsI v)) (hK : v.length ≤ K) (hl : v.length ≤ 1000000) (h : back1 n v = some v') :
    Calls Try.prog 40 #[.agg #[.int .i64 n.1, .int .i64 n.2], .slice (some ⟨g, 0, none⟩) v.length K] w (RestPost g K v' w) := by
  have hok : Hid (ok1 n.1 (v.length : Int) = true) := by unfold Hid; rw [← back1_ok, h]; rfl
  have hcn : Hid (cnt1 n.1 (v.length : Int) = (v'.length : Int)) := (back1_cnt h).symm
  have hle := back1_len h
  have HsL := Lib.hid (fun (u : World) => slice_to (some ⟨g, 0, none⟩) v.length K v'.length (v'.length : Int) rfl (by omega) u)
  have HO := Lib.hid hO
  have hg := hO.1
  clear hO
  by_cases h1 : n.1 = -1
  · obtain ⟨h0, hv⟩ : 0 < v.length ∧ v' = v.take (v.length - 1) := by
      obtain ⟨a, b⟩ := n
      obtain rfl : a = -1 := h1
      exact back1_new h
    have HV := Lib.hid hv
    have hd : (n.1 != -1) = false := by rw [h1]; rfl
    have hsl := HsL.out
    clear h h1 hv h0
    go_enter Try.func40, Try.ntmps40
    go_wp2_with fail
    refine (count_any n v.length _ hl).mono ?_
    rintro e w1 ⟨rfl, q1⟩
    rw [hok.out, hcn.out]
    have q2 : Q w w1 := ((Q.refl w).alloc _).trans q1
    have k0 : w1.cell? ⟨w.heap.size, 0, none⟩ = some (.int .i64 n.1) := by rw [q1.cell (by simp)]; simp
    go_wp2_with fail
    go_ret2
    refine ⟨rfl, ?_, grows_q q2 _⟩
    have := (HO.out.q q2).take (v.length - 1)
    rw [HV.out]
    simpa [cellsI, List.map_take] using this
  · obtain ⟨a, ha, hal, hv⟩ := back1_old h1 h
    have hd : (n.1 != -1) = true := by simpa using h1
    have HV := Lib.hid hv
    have HA := Lib.hid ha
    have hlen : Hid (v'.length = v.length) := by rw [hv]; exact Lib.hid (by simp)
    have hsl := HsL.out
    clear h h1 hv
    obtain ⟨x, y⟩ := n
    have ha' : x = (a : Int) := ha
    clear ha HA
    subst ha'
    go_enter Try.func40, Try.ntmps40
    go_wp2_with fail
    refine (count_any ((a : Int), y) v.length _ hl).mono ?_
    rintro e w1 ⟨rfl, q1⟩
    rw [hok.out, hcn.out]
    have q2 : Q w w1 := ((Q.refl w).alloc _).trans q1
    have k0 : w1.cell? ⟨w.heap.size, 0, none⟩ = some (.int .i64 (a : Int)) := by rw [q1.cell (by simp)]; simp
    have k1 : w1.cell? ⟨w.heap.size, 1, none⟩ = some (.int .i64 y) := by rw [q1.cell (by simp)]; simp
    have HO1 := Lib.hid (HO.out.q q2)
    have oc := (HO1.out.2 a _ (cellsI_at hal)).1
    have of := (HO1.out.2 a _ (cellsI_at hal)).2
    go_wp2_with fail
    go_ret2
    refine ⟨rfl, ?_, q_grown q2 (setCell_grown w1 g a _)⟩
    rw [HV.out, cellsI_set]
    exact HO1.out.set (by rw [cellsI_len]; exact hal) _

set_option maxRecDepth 100000 in
set_option maxHeartbeats 1000000 in
theorem takeV_any (ns : List Note) (V V' : List Int) (A : Option Addr) (n c g K B : Nat) (w : World) (hn : n = ns.length) (hr : Rds w B A (cellsP ns)) (hB : B ≤ g) (hO : OwnC w g (cellsI V)) (hK : V.length ≤ K) (hl : V.length ≤ 1000000) (hnl : ns.length ≤ 1000000) (h : backR ns.reverse V = some V') :
    Calls Try.prog 39 #[.slice A n c, .slice (some ⟨g, 0, none⟩) V.length K, .func (.func 40) #[] #[]] w (RestPost g K V' w) := by
  subst hn
  have HO := Lib.hid hO
  have HR := Lib.hid hr
  have Hh : Hid (backR (ns.take ns.length).reverse V = some V') := by rw [List.take_length]; exact Lib.hid h
  have hgs := hO.1
  clear hO hr h
  go_enter Try.func39, Try.ntmps39
  go_wp2_with fail
  go_loopw [1, 8, 9] (fun now ok i wr => ∃ (v : List Int) (k : Nat) (j : Int), k ≤ ns.length ∧ i = .int .i64 j ∧ Hid (j = (k : Int) - 1) ∧ ok = .bool true ∧ now = .slice (some ⟨g, 0, none⟩) v.length K ∧ v.length ≤ K ∧ v.length ≤ 1000000 ∧ Hid (OwnC wr g (cellsI v)) ∧ Hid (w.grownBy wr (some g)) ∧ Hid (backR (ns.take k).reverse v = some V')) (fun _ _ i _ => (intOf i + 1).toNat)
  case atStart => exact ⟨V, ns.length, _, Nat.le_refl _, rfl, Lib.hid rfl, rfl, rfl, hK, hl, HO, Lib.hid (World.grownBy.refl w _), Hh⟩
  case round =>
    clear HO Hh
    obtain ⟨v, k, j, hk, rfl, HJ, rfl, rfl, hvK, hvl, HO, HG, HH⟩ := hrel
    rcases k with _ | k
    · obtain rfl : j = -1 := by have := HJ.out; simpa using this
      have HV : Hid (v = V') := Lib.hid (Option.some.inj (show some v = some V' from HH.out))
      go_wp2_with fail
      go_ret2
      rw [← HV.out]
      exact ⟨rfl, HO.out, HG.out⟩
    · obtain rfl : j = (k : Int) := by have := HJ.out; omega
      have hkl : k < ns.length := by omega
      have HS := HH.out
      rw [backR_at ns k hkl] at HS
      cases he : back1 ns[k] v with
      | none => rw [he] at HS; cases HS
      | some v1 =>
        rw [he] at HS
        have HS' : Hid (backR (ns.take k).reverse v1 = some V') := HS
        have He := Lib.hid he
        have hle := back1_len he
        have hR : Rds wr B A (cellsP ns) := HR.out.keep (Below.grown (Below.refl B w) HG.out (by omega) (fun i e => by injection e with e; omega))
        obtain ⟨ad, e, hb, c0, c1⟩ := hR.pair_at hkl
        have HE := Lib.hid e
        clear HS he hR e
        have hj0 : (0 : Int) ≤ (k : Int) := Int.natCast_nonneg _
        rw [HE.out]
        go_wp2_with fail
        refine (restore_any ns[k] v v1 g K _ HO.out hvK hvl He.out).mono ?_
        rintro e w1 ⟨rfl, hO1, hG1⟩
        have HO1 := Lib.hid hO1
        have HG1 := Lib.hid hG1
        clear hO1 hG1
        go_wp2_with fail
        go_roundw
        case rel => exact ⟨v1, k, _, by omega, rfl, Lib.hid (by omega), rfl, rfl, by omega, by omega, HO1, Lib.hid (grown_trans HG.out HG1.out), HS'⟩
        case measure => simp [intOf]
end Go.Proofs.Ytodmompfnlcjpaa.Tr
