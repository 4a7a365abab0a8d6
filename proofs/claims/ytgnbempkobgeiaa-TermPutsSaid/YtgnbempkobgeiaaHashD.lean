/-
  Contracts of hash.Lay and of the document's Lay: keys are laid, in a row of the call's own.
-/
import Derived.Test.YtgnbempkobgeiaaHashP
import Derived.OwnWalk
import Derived.Laws.MakeOwn
import Derived.Laws.OwnMore
import Derived.Deep.RegionHeld
namespace Go.Proofs.Ytgnbempkobgeiaa.Hs
open Go.RowKit Kit

/-- block g holds these numbers, from its head on, and may be written -/
def OwnI (w : World) (g : Nat) (sl : List Int) : Prop := g < w.heap.size ∧ ∀ i x, sl[i]? = some x → w.cell? ⟨g, i, none⟩ = some (.int .i64 x) ∧ w.frozen? ⟨g, i, none⟩ = false
theorem add_zero_head (g j : Nat) : (⟨g, 0, none⟩ : Addr).add j = ⟨g, j, none⟩ := by
  unfold Addr.add
  by_cases h : j = 0 <;> simp [h]
theorem OwnI.ints {w : World} {g : Nat} {sl : List Int} (h : OwnI w g sl) : Ints w w.heap.size (some ⟨g, 0, none⟩) sl := fun _ => ⟨_, rfl, h.1, fun i x hx => by rw [add_zero_head]; exact (h.2 i x hx).1⟩
theorem OwnI.q {w w' : World} {g : Nat} {sl : List Int} (h : OwnI w g sl) (q : Q w w') : OwnI w' g sl :=
  ⟨Nat.lt_of_lt_of_le h.1 q.size, fun i x hx => ⟨(q.cell (p := ⟨g, i, none⟩) h.1).trans (h.2 i x hx).1, (q.frozen (p := ⟨g, i, none⟩) h.1).trans (h.2 i x hx).2⟩⟩
theorem OwnI.at_ {w : World} {g : Nat} {sl : List Int} (h : OwnI w g sl) {s : Nat} (hs : s < sl.length) : w.cell? ⟨g, s, none⟩ = some (.int .i64 sl[s]) ∧ w.frozen? ⟨g, s, none⟩ = false := h.2 s _ (List.getElem?_eq_getElem hs)
theorem OwnI.set {w : World} {g : Nat} {sl : List Int} (h : OwnI w g sl) {s : Nat} (hs : s < sl.length) (v : Int) : OwnI (w.setCell ⟨g, s, none⟩ (.int .i64 v)) g (sl.set s v) := by
  refine ⟨by simp [World.setCell]; exact h.1, fun i x hx => ?_⟩
  rw [World.frozen?_setCell]
  by_cases hi : s = i
  · subst hi
    rw [List.getElem?_set_self hs] at hx
    obtain rfl : v = x := by simpa using hx
    exact ⟨World.cell?_setCell_same' _ _ _ (by rw [(h.at_ hs).1]; rfl), (h.at_ hs).2⟩
  · rw [List.getElem?_set_ne hi] at hx
    have := h.2 i x hx
    exact ⟨(by have e := World.cell?_setCell_other (w := w) (a := ⟨g, s, none⟩) (b := ⟨g, i, none⟩) (v := .int .i64 v) (by intro e; injection e with _ e; exact hi e); exact e.trans this.1), this.2⟩
theorem OwnI.made (w : World) (n : Nat) (t : TypeId) : OwnI (w.alloc (.cells (madeCells #[.int .i64 0] n) t)) w.heap.size (List.replicate n 0) := by
  refine ⟨by simp, fun i x hx => ?_⟩
  have hi : i < n := by have := (List.getElem?_eq_some_iff.1 hx).1; simpa using this
  have e : x = 0 := by rw [List.getElem?_replicate, if_pos hi] at hx; simpa using hx.symm
  subst e
  refine ⟨?_, World.frozen?_alloc_at _ _ _ _ rfl⟩
  rw [cell_of_row _ _ _ _ _ _ (heap_alloc_new w _)]
  simp [madeCells, hi, Nat.mod_one]

theorem intInfo : (Try.prog.info? 3).map (fun i => (i.zero, i.size, i.bytes)) = some (some (.int .i64 0), 1, 8) := by kernel_rfl
theorem make_ints (n : Nat) (hn : n ≤ 100000000) (u : World) : (Instr.makeSlice 24 (.int .i64 (n : Int)) (.int .i64 (n : Int))).run Try.prog u = .ok (.slice (some ⟨u.heap.size, 0, none⟩) n n) (u.alloc (.cells (madeCells #[.int .i64 0] n) 3)) := by
  obtain ⟨i0, hi, hz0, hz1, hz2⟩ := info_parts intInfo
  have h := run_make (P := Try.prog) u 24 3 i0 _ Try.underlying24 hi hz0 .i64 .i64 (n : Int) (n : Int) (by omega) (by omega) (by rw [hz2]; omega) (by omega)
  rw [hz1, Nat.mul_one] at h
  exact h

theorem hashN_any (A : Option Addr) (n c : Nat) (l : List Int) (w : World) (hn : n = l.length) (hr : Ints w w.heap.size A l) (hl : l.length ≤ maxLen) :
    Calls Try.prog 55 #[.slice A n c] w fun e w' => e = .returned (.int .u32 (hashN l : Int)) ∧ w = w' :=
  (hash_any A n c l w hn hr hl).mono fun _ _ ⟨he, hw⟩ => ⟨by rw [he, hashN_eq], hw⟩
theorem refHashN_any (A : Option Addr) (n c : Nat) (l : List Int) (w : World) (hn : n = l.length) (hr : Ints w w.heap.size A l) (hl : l.length ≤ maxLen) :
    Calls Try.prog 69 #[.slice A n c] w fun e w' => e = .returned (.int .u32 (hashN l : Int)) ∧ w = w' :=
  (refHash_any A n c l w hn hr hl).mono fun _ _ ⟨he, hw⟩ => ⟨by rw [he, hashN_eq], hw⟩

def LayPost (ks : List (List Int)) (w : World) (e : Ending) (w' : World) : Prop :=
  ∃ g, e = .returned (.slice (some ⟨g, 0, none⟩) (sizeN ks.length) (sizeN ks.length)) ∧ w.heap.size ≤ g ∧ OwnI w' g (layI ks) ∧ Q w w'

set_option maxHeartbeats 1000000 in
theorem lay_any (A : Option Addr) (n c : Nat) (ks : List (List Int)) (w : World) (hn : n = ks.length) (hk : Keys w w.heap.size A ks) (hl : ks.length ≤ 10000) (hs : ∀ k ∈ ks, k.length ≤ maxLen) :
    Calls Try.prog 47 #[.slice A n c] w (LayPost ks w) := by
  subst hn
  have hN := sizeN_le ks.length
  have hG := sizeN_gt ks.length
  have hmk := make_ints (sizeN ks.length) (by omega)
  have HM := Lib.hid (OwnI.made w (sizeN ks.length) 3)
  obtain ⟨N, hNe⟩ : ∃ N, sizeN ks.length = N := ⟨_, rfl⟩
  have HI : Hid (layI ks = layF ks 0 (List.replicate N 0)) := by unfold Hid; rw [layI, hNe]
  unfold LayPost
  rw [hNe] at hmk HM hN hG ⊢
  have HE := Lib.hid hNe
  clear hNe
  go_enter Try.func47, Try.ntmps47
  go_wp2_with fail
  refine (size_any _ _ (by omega)).mono ?_
  rintro e w1 ⟨rfl, rfl⟩
  rw [HE.out]
  go_wp2_with fail
  clear hmk
  go_loopw [15] (fun i wr => ∃ (k : Nat) (sl : List Int), k ≤ ks.length ∧ i = .int .i64 k ∧ Hid (sl.length = N) ∧ Hid (nz sl ≤ k) ∧ Hid (layI ks = layF (ks.drop k) k sl) ∧ Hid (OwnI wr w.heap.size sl) ∧ Q w wr) (fun i _ => ks.length - (intOf i).toNat)
  case atStart => exact ⟨0, _, Nat.zero_le _, rfl, Lib.hid (by simp), Lib.hid (by rw [nz_replicate]; exact Nat.le_refl _), HI, HM, (Q.refl _).alloc _⟩
  case round =>
    obtain ⟨k, sl, hkl, rfl, HL, HZ, HF, HO, qr⟩ := hrel
    by_cases hlt : k < ks.length
    · obtain ⟨ad, rfl, hb, a, c1, hle, c0, hi⟩ := (hk.q (Nat.le_refl _) qr).at_ hlt
      have Hi := Lib.hid (hi.more qr.size)
      have Hs := Lib.hid (hs _ (List.getElem_mem hlt))
      have HS := Lib.hid (layF_at ks k sl hlt)
      obtain ⟨J, hJ, hz, hbf, hsk⟩ := free_way (hashN ks[k]) (show nz sl < sl.length by have := HZ.out; have := HL.out; omega)
      have hm : (hashN ks[k] + J) % sl.length < sl.length := Nat.mod_lt _ (by omega)
      obtain ⟨s, hse⟩ : ∃ s, (hashN ks[k] + J) % sl.length = s := ⟨_, rfl⟩
      rw [hse] at hsk hm
      have Hsk := Lib.hid hsk
      have hsN : s < N := by have := HL.out; omega
      have HP : Hid (putSlot sl ks[k] k = sl.set s ((k : Int) + 1)) := by unfold Hid putSlot slotOf; rw [hsk]; rfl
      have Hm := Lib.hid hm
      clear hi hz hbf hsk hse hm hk hle
      go_wp2_with fail
      refine (hashN_any _ _ _ _ _ rfl Hi.out Hs.out).mono ?_
      rintro e w2 ⟨rfl, rfl⟩
      go_wp2_with fail
      refine (seek_never _ _ _ sl _ nv _ HL.out.symm HO.out.ints (hashN_lt _) (by have := HL.out; omega) (fun x W _ => (never_any x W).mono fun _ _ ⟨he, hw⟩ => ⟨he, 0, hw.symm⟩)).mono ?_
      rintro e w3 ⟨rfl, q3⟩
      rw [Hsk.out]
      have HO3 := Lib.hid (HO.out.q q3)
      have hc3 := (HO3.out.at_ Hm.out).1
      have hf3 := (HO3.out.at_ Hm.out).2
      go_wp2_with fail
      go_roundw
      case rel => exact ⟨k + 1, sl.set s ((k : Int) + 1), by omega, by go_num, Lib.hid (by rw [List.length_set]; exact HL.out), Lib.hid (by have := nz_set sl s ((k : Int) + 1); have := HZ.out; omega), Lib.hid (by rw [HF.out, HS.out, HP.out]), Lib.hid (HO3.out.set Hm.out _), (qr.trans q3).setCell (p := ⟨w.heap.size, s, none⟩) (Nat.le_refl _) _⟩
      case measure => simp [intOf]; omega
    · have HS := Lib.hid (layF_end ks k sl (by omega))
      go_wp2_with fail
      go_ret
      exact ⟨w.heap.size, rfl, Nat.le_refl _, by rw [HF.out, HS.out]; exact HO.out, qr⟩

theorem step_mod (h j N : Nat) (hN : 0 < N) : (h + (j + 1)) % N = if (h + j) % N + 1 = N then 0 else (h + j) % N + 1 := by
  have e := Nat.div_add_mod (h + j) N
  have hr : (h + j) % N < N := Nat.mod_lt _ hN
  split
  · rename_i h1
    rw [show h + (j + 1) = N * ((h + j) / N + 1) + 0 by rw [Nat.mul_add]; omega, Nat.mul_add_mod]; simp
  · rename_i h1
    rw [show h + (j + 1) = N * ((h + j) / N) + ((h + j) % N + 1) by omega, Nat.mul_add_mod, Nat.mod_eq_of_lt (by omega)]

theorem dist_mod {h j J N : Nat} (hj : j ≤ J) (hJ : J < N) : ((h + J) % N + N - (h + j) % N) % N = J - j := by
  have hr : (h + j) % N < N := Nat.mod_lt _ (by omega)
  have e : (h + J) % N = ((h + j) % N + (J - j)) % N := by
    rw [show h + J = (h + j) + (J - j) by omega, Nat.add_mod, Nat.mod_eq_of_lt (show J - j < N by omega)]
  by_cases hx : (h + j) % N + (J - j) < N
  · rw [e, Nat.mod_eq_of_lt hx, show (h + j) % N + (J - j) + N - (h + j) % N = (J - j) + N by omega, Nat.add_mod_right, Nat.mod_eq_of_lt (by omega)]
  · have e2 : ((h + j) % N + (J - j)) % N = (h + j) % N + (J - j) - N := by
      rw [Nat.mod_eq_sub_mod (by omega), Nat.mod_eq_of_lt (by omega)]
    rw [e, e2, show (h + j) % N + (J - j) - N + N - (h + j) % N = J - j by omega, Nat.mod_eq_of_lt (by omega)]

set_option maxHeartbeats 1000000 in
theorem refLay_any (A : Option Addr) (n c : Nat) (ks : List (List Int)) (w : World) (hn : n = ks.length) (hk : Keys w w.heap.size A ks) (hl : ks.length ≤ 10000) (hs : ∀ k ∈ ks, k.length ≤ maxLen) :
    Calls Try.prog 59 #[.slice A n c] w (LayPost ks w) := by
  subst hn
  have hN := sizeN_le ks.length
  have hG := sizeN_gt ks.length
  have hmk := make_ints (sizeN ks.length) (by omega)
  have HM := Lib.hid (OwnI.made w (sizeN ks.length) 3)
  obtain ⟨N, hNe⟩ : ∃ N, sizeN ks.length = N := ⟨_, rfl⟩
  have HI : Hid (layI ks = layF ks 0 (List.replicate N 0)) := by unfold Hid; rw [layI, hNe]
  unfold LayPost
  rw [hNe] at hmk HM hN hG ⊢
  have HE := Lib.hid hNe
  clear hNe
  go_enter Try.func59, Try.ntmps59
  go_wp2_with fail
  refine (refSize_any _ _ (by omega)).mono ?_
  rintro e w1 ⟨rfl, rfl⟩
  rw [HE.out]
  go_wp2_with fail
  clear hmk
  go_loopw [4] (fun i wr => ∃ (k : Nat) (sl : List Int), k ≤ ks.length ∧ i = .int .i64 k ∧ Hid (sl.length = N) ∧ Hid (nz sl ≤ k) ∧ Hid (layI ks = layF (ks.drop k) k sl) ∧ Hid (OwnI wr w.heap.size sl) ∧ Q w wr) (fun i _ => ks.length - (intOf i).toNat)
  case atStart => exact ⟨0, _, Nat.zero_le _, rfl, Lib.hid (by simp), Lib.hid (by rw [nz_replicate]; exact Nat.le_refl _), HI, HM, (Q.refl _).alloc _⟩
  case round =>
    obtain ⟨k, sl, hkl, rfl, HL, HZ, HF, HO, qr⟩ := hrel
    by_cases hlt : k < ks.length
    · obtain ⟨ad, rfl, hb, a, c1, hle, c0, hi⟩ := (hk.q (Nat.le_refl _) qr).at_ hlt
      have Hi := Lib.hid (hi.more qr.size)
      have Hs := Lib.hid (hs _ (List.getElem_mem hlt))
      have HS := Lib.hid (layF_at ks k sl hlt)
      obtain ⟨J, hJ, hz, hbf, hsk⟩ := free_way (hashN ks[k]) (show nz sl < sl.length by have := HZ.out; have := HL.out; omega)
      rw [HL.out] at hz hbf hsk hJ
      have HP : Hid (putSlot sl ks[k] k = sl.set ((hashN ks[k] + J) % N) ((k : Int) + 1)) := by unfold Hid putSlot slotOf; rw [hsk]; rfl
      obtain ⟨h, hh⟩ : ∃ h, hashN ks[k] = h := ⟨_, rfl⟩
      have hh2 := hashN_lt ks[k]
      rw [hh] at hz hbf HP hh2
      have Hh := Lib.hid hh
      have Hz := Lib.hid hz
      have Hbf := Lib.hid hbf
      clear hi hz hbf hsk hh hk hle
      go_wp2_with fail
      refine (refHashN_any _ _ _ _ _ rfl Hi.out Hs.out).mono ?_
      rintro e w2 ⟨rfl, rfl⟩
      rw [Hh.out]
      have hN0 : 0 < N := by omega
      go_wp2_with fail
      go_loopw [5] (fun at' w' => ∃ (j s : Nat), j ≤ J ∧ at' = .int .i64 s ∧ s < N ∧ Hid (s = (h + j) % N) ∧ w' = wr) (fun at' _ => ((h + J) % N + N - (intOf at').toNat) % N)
      case atStart => exact ⟨0, h % N, Nat.zero_le _, by rw [Int.natCast_emod], Nat.mod_lt _ hN0, Lib.hid rfl, rfl⟩
      case round =>
        obtain ⟨j, s, hj, rfl, hsN, Hs2, rfl⟩ := hrel
        have hsl : s < sl.length := by have := HL.out; omega
        have hc3 := (HO.out.at_ hsl).1
        have hf3 := (HO.out.at_ hsl).2
        by_cases hjJ : j < J
        · have hnz : (sl[s] != 0) = true := by
            have := Hbf.out j hjJ
            rw [← Hs2.out, List.getElem?_eq_getElem hsl] at this
            simpa using this
          have Hst := Lib.hid (step_mod h j N hN0)
          have Hd1 := Lib.hid (dist_mod (h := h) hj hJ)
          have Hd2 := Lib.hid (dist_mod (h := h) (show j + 1 ≤ J by omega) hJ)
          by_cases hw : s + 1 = N
          · have hw' : (s : Int) + 1 = (N : Int) := by omega
            have hw2 : ((s : Int) + 1 == (N : Int)) = true := by simpa using hw'
            have Hst' : Hid (0 = (h + (j + 1)) % N) := by unfold Hid; rw [Hst.out, ← Hs2.out, if_pos hw]
            have Hw := Lib.hid hw
            clear hw hw'
            go_wp2_with fail
            go_roundw
            case rel => exact ⟨j + 1, 0, by omega, rfl, hN0, Hst', trivial⟩
            case measure =>
              have e1 := Hd1.out; have e2 := Hd2.out
              rw [← Hs2.out] at e1; rw [← Hst'.out] at e2
              show ((h + J) % N + N - 0) % N < ((h + J) % N + N - s) % N
              omega
          · have hw2 : ((s : Int) + 1 == (N : Int)) = false := by simp; omega
            have Hst' : Hid (s + 1 = (h + (j + 1)) % N) := by unfold Hid; rw [Hst.out, ← Hs2.out, if_neg hw]
            go_wp2_with fail
            go_roundw
            case rel => exact ⟨j + 1, s + 1, by omega, by go_num, by omega, Hst', trivial⟩
            case measure =>
              have e1 := Hd1.out; have e2 := Hd2.out
              rw [← Hs2.out] at e1; rw [← Hst'.out] at e2
              have e3 : (intOf (Value.int .i64 ((s : Int) + 1))).toNat = s + 1 := by simp [intOf]
              rw [e3]
              show ((h + J) % N + N - (s + 1)) % N < ((h + J) % N + N - s) % N
              omega
        · obtain rfl : j = J := by omega
          have hnz : (sl[s] != 0) = false := by
            have := Hz.out
            rw [← Hs2.out, List.getElem?_eq_getElem hsl] at this
            simpa using this
          have HP' : Hid (putSlot sl ks[k] k = sl.set s ((k : Int) + 1)) := by unfold Hid; rw [HP.out, ← Hs2.out]
          have Hsl := Lib.hid hsl
          go_wp2_with fail
          go_roundw
          case rel => exact ⟨k + 1, sl.set s ((k : Int) + 1), by omega, by go_num, Lib.hid (by rw [List.length_set]; exact HL.out), Lib.hid (by have := nz_set sl s ((k : Int) + 1); have := HZ.out; omega), Lib.hid (by rw [HF.out, HS.out, HP'.out]), Lib.hid (HO.out.set Hsl.out _), qr.setCell (p := ⟨w.heap.size, s, none⟩) (Nat.le_refl _) _⟩
          case measure => simp [intOf]; omega
    · have HS := Lib.hid (layF_end ks k sl (by omega))
      go_wp2_with fail
      go_ret
      exact ⟨w.heap.size, rfl, Nat.le_refl _, by rw [HF.out, HS.out]; exact HO.out, qr⟩
end Go.Proofs.Ytgnbempkobgeiaa.Hs
