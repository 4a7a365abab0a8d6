/-
  What the proofs lean on, part 2 of 10.
-/
import Derived.Test.YtjgbheidkjgncaaPa
import Derived.OwnWalk
import Derived.Laws.MakeOwn
import Derived.Laws.OwnMore
import Derived.Deep.RegionHeld
import Derived.Maps.AppendAt
import Derived.Deep.AppendLies
import Derived.Deep.RegionLaw
import Derived.RegionTactic
import Derived.Laws.CopyOwn
import Derived.Lib.AppendZeros
import Derived.Lib.SliceRun
import Derived.Deep.RegionHeld3
namespace Go.Proofs.Ytjgbheidkjgncaa.Hs
open Go.RowKit Kit

/-- block g holds these numbers, from its head on, and may be written -/
def OwnI (w : World) (g : Nat) (sl : List Int) : Prop := g < w.heap.size ∧ ∀ i x, sl[i]? = some x → w.cell? ⟨g, i, none⟩ = some (.int .i64 x) ∧ w.frozen? ⟨g, i, none⟩ = false
theorem add_zero_head (g j : Nat) : (⟨g, 0, none⟩ : Addr).add j = ⟨g, j, none⟩ := by
  unfold Addr.add
  by_cases h : j = 0 <;> simp [h]
theorem OwnI.ints {w : World} {g : Nat} {sl : List Int} (h : OwnI w g sl) : Ints w w.heap.size (some ⟨g, 0, none⟩) sl := fun _ => ⟨_, rfl, h.1, fun i x hx => by rw [add_zero_head]; exact (h.2 i x hx).1⟩
theorem OwnI.q {w w' : World} {g : Nat} {sl : List Int} (h : OwnI w g sl) (q : Q w w') : OwnI w' g sl :=
  ⟨Nat.lt_of_lt_of_le h.1 q.size, fun i x hx => ⟨(q.cell (p := ⟨g, i, none⟩) h.1).trans (h.2 i x hx).1, (q.frozen (p := ⟨g, i, none⟩) h.1).trans (h.2 i x hx).2⟩⟩
theorem OwnI.at_ {w : World} {g : Nat} {sl : List Int} (h : OwnI w g sl) {s : Nat} (hs : s < sl.length) : w.cell? ⟨g, s, none⟩ = some (.int .i64 sl[s]) ∧ w.frozen? ⟨g, s, none⟩ = false := h.2 s _ (List.getElem?_eq_getElem hs)
theorem OwnI.set {w : World} {g : Nat} {sl : List Int} (h : OwnI w g sl) {s : Nat} (hs : s < sl.length) (v : Int) : OwnI (w.setCell ⟨g, s, none⟩ (.int .i64 v)) g (sl.set s v) := by
  refine ⟨by simp [World.setCell]; exact h.1, fun i x hx => ?_⟩
  rw [World.frozen?_setCell]
  by_cases hi : s = i
  · subst hi
    rw [List.getElem?_set_self hs] at hx
    obtain rfl : v = x := by simpa using hx
    exact ⟨World.cell?_setCell_same' _ _ _ (by rw [(h.at_ hs).1]; rfl), (h.at_ hs).2⟩
  · rw [List.getElem?_set_ne hi] at hx
    have := h.2 i x hx
    exact ⟨(by have e := World.cell?_setCell_other (w := w) (a := ⟨g, s, none⟩) (b := ⟨g, i, none⟩) (v := .int .i64 v) (by intro e; injection e with _ e; exact hi e); exact e.trans this.1), this.2⟩
theorem OwnI.made (w : World) (n : Nat) (t : TypeId) : OwnI (w.alloc (.cells (madeCells #[.int .i64 0] n) t)) w.heap.size (List.replicate n 0) := by
  refine ⟨by simp, fun i x hx => ?_⟩
  have hi : i < n := by have := (List.getElem?_eq_some_iff.1 hx).1; simpa using this
  have e : x = 0 := by rw [List.getElem?_replicate, if_pos hi] at hx; simpa using hx.symm
  subst e
  refine ⟨?_, World.frozen?_alloc_at _ _ _ _ rfl⟩
  rw [cell_of_row _ _ _ _ _ _ (heap_alloc_new w _)]
  simp [madeCells, hi, Nat.mod_one]

theorem intInfo : (Try.prog.info? 3).map (fun i => (i.zero, i.size, i.bytes)) = some (some (.int .i64 0), 1, 8) := by kernel_rfl
theorem make_ints (n : Nat) (hn : n ≤ 100000000) (u : World) : (Instr.makeSlice 24 (.int .i64 (n : Int)) (.int .i64 (n : Int))).run Try.prog u = .ok (.slice (some ⟨u.heap.size, 0, none⟩) n n) (u.alloc (.cells (madeCells #[.int .i64 0] n) 3)) := by
  obtain ⟨i0, hi, hz0, hz1, hz2⟩ := info_parts intInfo
  have h := run_make (P := Try.prog) u 24 3 i0 _ Try.underlying24 hi hz0 .i64 .i64 (n : Int) (n : Int) (by omega) (by omega) (by rw [hz2]; omega) (by omega)
  rw [hz1, Nat.mul_one] at h
  exact h

theorem hashN_any (A : Option Addr) (n c : Nat) (l : List Int) (w : World) (hn : n = l.length) (hr : Ints w w.heap.size A l) (hl : l.length ≤ maxLen) :
    Calls Try.prog 41 #[.slice A n c] w fun e w' => e = .returned (.int .u32 (hashN l : Int)) ∧ w = w' :=
  (hash_any A n c l w hn hr hl).mono fun _ _ ⟨he, hw⟩ => ⟨by rw [he, hashN_eq], hw⟩
theorem refHashN_any (A : Option Addr) (n c : Nat) (l : List Int) (w : World) (hn : n = l.length) (hr : Ints w w.heap.size A l) (hl : l.length ≤ maxLen) :
    Calls Try.prog 56 #[.slice A n c] w fun e w' => e = .returned (.int .u32 (hashN l : Int)) ∧ w = w' :=
  (refHash_any A n c l w hn hr hl).mono fun _ _ ⟨he, hw⟩ => ⟨by rw [he, hashN_eq], hw⟩

def LayPost (ks : List (List Int)) (w : World) (e : Ending) (w' : World) : Prop :=
  ∃ g, e = .returned (.slice (some ⟨g, 0, none⟩) (sizeN ks.length) (sizeN ks.length)) ∧ w.heap.size ≤ g ∧ OwnI w' g (layI ks) ∧ Q w w'

set_option maxRecDepth 100000 in
set_option maxHeartbeats 1000000 in
theorem lay_any (A : Option Addr) (n c : Nat) (ks : List (List Int)) (w : World) (hn : n = ks.length) (hk : Keys w w.heap.size A ks) (hl : ks.length ≤ 10000) (hs : ∀ k ∈ ks, k.length ≤ maxLen) :
    Calls Try.prog 32 #[.slice A n c] w (LayPost ks w) := by
  subst hn
  have hN := sizeN_le ks.length
  have hG := sizeN_gt ks.length
  have hmk := make_ints (sizeN ks.length) (by omega)
  have HM := Lib.hid (OwnI.made w (sizeN ks.length) 3)
  obtain ⟨N, hNe⟩ : ∃ N, sizeN ks.length = N := ⟨_, rfl⟩
  have HI : Hid (layI ks = layF ks 0 (List.replicate N 0)) := by unfold Hid; rw [layI, hNe]
  unfold LayPost
  rw [hNe] at hmk HM hN hG ⊢
  have HE := Lib.hid hNe
  clear hNe
  go_enter Try.func32, Try.ntmps32
  go_wp2_with fail
  refine (size_any _ _ (by omega)).mono ?_
  rintro e w1 ⟨rfl, rfl⟩
  rw [HE.out]
  go_wp2_with fail
  clear hmk
  go_loopw [15] (fun i wr => ∃ (k : Nat) (sl : List Int), k ≤ ks.length ∧ i = .int .i64 k ∧ Hid (sl.length = N) ∧ Hid (nz sl ≤ k) ∧ Hid (layI ks = layF (ks.drop k) k sl) ∧ Hid (OwnI wr w.heap.size sl) ∧ Q w wr) (fun i _ => ks.length - (intOf i).toNat)
  case atStart => exact ⟨0, _, Nat.zero_le _, rfl, Lib.hid (by simp), Lib.hid (by rw [nz_replicate]; exact Nat.le_refl _), HI, HM, (Q.refl _).alloc _⟩
  case round =>
    obtain ⟨k, sl, hkl, rfl, HL, HZ, HF, HO, qr⟩ := hrel
    by_cases hlt : k < ks.length
    · obtain ⟨ad, rfl, hb, a, c1, hle, c0, hi⟩ := (hk.q (Nat.le_refl _) qr).at_ hlt
      have Hi := Lib.hid (hi.more qr.size)
      have Hs := Lib.hid (hs _ (List.getElem_mem hlt))
      have HS := Lib.hid (layF_at ks k sl hlt)
      obtain ⟨J, hJ, hz, hbf, hsk⟩ := free_way (hashN ks[k]) (show nz sl < sl.length by have := HZ.out; have := HL.out; omega)
      have hm : (hashN ks[k] + J) % sl.length < sl.length := Nat.mod_lt _ (by omega)
      obtain ⟨s, hse⟩ : ∃ s, (hashN ks[k] + J) % sl.length = s := ⟨_, rfl⟩
      rw [hse] at hsk hm
      have Hsk := Lib.hid hsk
      have hsN : s < N := by have := HL.out; omega
      have HP : Hid (putSlot sl ks[k] k = sl.set s ((k : Int) + 1)) := by unfold Hid putSlot slotOf; rw [hsk]; rfl
      have Hm := Lib.hid hm
      clear hi hz hbf hsk hse hm hk hle
      go_wp2_with fail
      refine (hashN_any _ _ _ _ _ rfl Hi.out Hs.out).mono ?_
      rintro e w2 ⟨rfl, rfl⟩
      go_wp2_with fail
      refine (seek_never _ _ _ sl _ nv _ HL.out.symm HO.out.ints (hashN_lt _) (by have := HL.out; omega) (fun x W _ => (never_any x W).mono fun _ _ ⟨he, hw⟩ => ⟨he, 0, hw.symm⟩)).mono ?_
      rintro e w3 ⟨rfl, q3⟩
      rw [Hsk.out]
      have HO3 := Lib.hid (HO.out.q q3)
      have hc3 := (HO3.out.at_ Hm.out).1
      have hf3 := (HO3.out.at_ Hm.out).2
      go_wp2_with fail
      go_roundw
      case rel => exact ⟨k + 1, sl.set s ((k : Int) + 1), by omega, by go_num, Lib.hid (by rw [List.length_set]; exact HL.out), Lib.hid (by have := nz_set sl s ((k : Int) + 1); have := HZ.out; omega), Lib.hid (by rw [HF.out, HS.out, HP.out]), Lib.hid (HO3.out.set Hm.out _), (qr.trans q3).setCell (p := ⟨w.heap.size, s, none⟩) (Nat.le_refl _) _⟩
      case measure => simp [intOf]; omega
    · have HS := Lib.hid (layF_end ks k sl (by omega))
      go_wp2_with fail
      go_ret
      exact ⟨w.heap.size, rfl, Nat.le_refl _, by rw [HF.out, HS.out]; exact HO.out, qr⟩

theorem step_mod (h j N : Nat) (hN : 0 < N) : (h + (j + 1)) % N = if (h + j) % N + 1 = N then 0 else (h + j) % N + 1 := by
  have e := Nat.div_add_mod (h + j) N
  have hr : (h + j) % N < N := Nat.mod_lt _ hN
  split
  · rename_i h1
    rw [show h + (j + 1) = N * ((h + j) / N + 1) + 0 by rw [Nat.mul_add]; omega, Nat.mul_add_mod]; simp
  · rename_i h1
    rw [show h + (j + 1) = N * ((h + j) / N) + ((h + j) % N + 1) by omega, Nat.mul_add_mod, Nat.mod_eq_of_lt (by omega)]

theorem dist_mod {h j J N : Nat} (hj : j ≤ J) (hJ : J < N) : ((h + J) % N + N - (h + j) % N) % N = J - j := by
  have hr : (h + j) % N < N := Nat.mod_lt _ (by omega)
  have e : (h + J) % N = ((h + j) % N + (J - j)) % N := by
    rw [show h + J = (h + j) + (J - j) by omega, Nat.add_mod, Nat.mod_eq_of_lt (show J - j < N by omega)]
  by_cases hx : (h + j) % N + (J - j) < N
  · rw [e, Nat.mod_eq_of_lt hx, show (h + j) % N + (J - j) + N - (h + j) % N = (J - j) + N by omega, Nat.add_mod_right, Nat.mod_eq_of_lt (by omega)]
  · have e2 : ((h + j) % N + (J - j)) % N = (h + j) % N + (J - j) - N := by
      rw [Nat.mod_eq_sub_mod (by omega), Nat.mod_eq_of_lt (by omega)]
    rw [e, e2, show (h + j) % N + (J - j) - N + N - (h + j) % N = J - j by omega, Nat.mod_eq_of_lt (by omega)]

set_option maxRecDepth 100000 in
set_option maxHeartbeats 1000000 in
theorem refLay_any (A : Option Addr) (n c : Nat) (ks : List (List Int)) (w : World) (hn : n = ks.length) (hk : Keys w w.heap.size A ks) (hl : ks.length ≤ 10000) (hs : ∀ k ∈ ks, k.length ≤ maxLen) :
    Calls Try.prog 39 #[.slice A n c] w (LayPost ks w) := by
  subst hn
  have hN := sizeN_le ks.length
  have hG := sizeN_gt ks.length
  have hmk := make_ints (sizeN ks.length) (by omega)
  have HM := Lib.hid (OwnI.made w (sizeN ks.length) 3)
  obtain ⟨N, hNe⟩ : ∃ N, sizeN ks.length = N := ⟨_, rfl⟩
  have HI : Hid (layI ks = layF ks 0 (List.replicate N 0)) := by unfold Hid; rw [layI, hNe]
  unfold LayPost
  rw [hNe] at hmk HM hN hG ⊢
  have HE := Lib.hid hNe
  clear hNe
  go_enter Try.func39, Try.ntmps39
  go_wp2_with fail
  refine (refSize_any _ _ (by omega)).mono ?_
  rintro e w1 ⟨rfl, rfl⟩
  rw [HE.out]
  go_wp2_with fail
  clear hmk
  go_loopw [4] (fun i wr => ∃ (k : Nat) (sl : List Int), k ≤ ks.length ∧ i = .int .i64 k ∧ Hid (sl.length = N) ∧ Hid (nz sl ≤ k) ∧ Hid (layI ks = layF (ks.drop k) k sl) ∧ Hid (OwnI wr w.heap.size sl) ∧ Q w wr) (fun i _ => ks.length - (intOf i).toNat)
  case atStart => exact ⟨0, _, Nat.zero_le _, rfl, Lib.hid (by simp), Lib.hid (by rw [nz_replicate]; exact Nat.le_refl _), HI, HM, (Q.refl _).alloc _⟩
  case round =>
    obtain ⟨k, sl, hkl, rfl, HL, HZ, HF, HO, qr⟩ := hrel
    by_cases hlt : k < ks.length
    · obtain ⟨ad, rfl, hb, a, c1, hle, c0, hi⟩ := (hk.q (Nat.le_refl _) qr).at_ hlt
      have Hi := Lib.hid (hi.more qr.size)
      have Hs := Lib.hid (hs _ (List.getElem_mem hlt))
      have HS := Lib.hid (layF_at ks k sl hlt)
      obtain ⟨J, hJ, hz, hbf, hsk⟩ := free_way (hashN ks[k]) (show nz sl < sl.length by have := HZ.out; have := HL.out; omega)
      rw [HL.out] at hz hbf hsk hJ
      have HP : Hid (putSlot sl ks[k] k = sl.set ((hashN ks[k] + J) % N) ((k : Int) + 1)) := by unfold Hid putSlot slotOf; rw [hsk]; rfl
      obtain ⟨h, hh⟩ : ∃ h, hashN ks[k] = h := ⟨_, rfl⟩
      have hh2 := hashN_lt ks[k]
      rw [hh] at hz hbf HP hh2
      have Hh := Lib.hid hh
      have Hz := Lib.hid hz
      have Hbf := Lib.hid hbf
      clear hi hz hbf hsk hh hk hle
      go_wp2_with fail
      refine (refHashN_any _ _ _ _ _ rfl Hi.out Hs.out).mono ?_
      rintro e w2 ⟨rfl, rfl⟩
      rw [Hh.out]
      have hN0 : 0 < N := by omega
      go_wp2_with fail
      go_loopw [5] (fun at' w' => ∃ (j s : Nat), j ≤ J ∧ at' = .int .i64 s ∧ s < N ∧ Hid (s = (h + j) % N) ∧ w' = wr) (fun at' _ => ((h + J) % N + N - (intOf at').toNat) % N)
      case atStart => exact ⟨0, h % N, Nat.zero_le _, by rw [Int.natCast_emod], Nat.mod_lt _ hN0, Lib.hid rfl, rfl⟩
      case round =>
        obtain ⟨j, s, hj, rfl, hsN, Hs2, rfl⟩ := hrel
        have hsl : s < sl.length := by have := HL.out; omega
        have hc3 := (HO.out.at_ hsl).1
        have hf3 := (HO.out.at_ hsl).2
        by_cases hjJ : j < J
        · have hnz : (sl[s] != 0) = true := by
            have := Hbf.out j hjJ
            rw [← Hs2.out, List.getElem?_eq_getElem hsl] at this
            simpa using this
          have Hst := Lib.hid (step_mod h j N hN0)
          have Hd1 := Lib.hid (dist_mod (h := h) hj hJ)
          have Hd2 := Lib.hid (dist_mod (h := h) (show j + 1 ≤ J by omega) hJ)
          by_cases hw : s + 1 = N
          · have hw' : (s : Int) + 1 = (N : Int) := by omega
            have hw2 : ((s : Int) + 1 == (N : Int)) = true := by simpa using hw'
            have Hst' : Hid (0 = (h + (j + 1)) % N) := by unfold Hid; rw [Hst.out, ← Hs2.out, if_pos hw]
            have Hw := Lib.hid hw
            clear hw hw'
            go_wp2_with fail
            go_roundw
            case rel => exact ⟨j + 1, 0, by omega, rfl, hN0, Hst', trivial⟩
            case measure =>
              have e1 := Hd1.out; have e2 := Hd2.out
              rw [← Hs2.out] at e1; rw [← Hst'.out] at e2
              show ((h + J) % N + N - 0) % N < ((h + J) % N + N - s) % N
              omega
          · have hw2 : ((s : Int) + 1 == (N : Int)) = false := by simp; omega
            have Hst' : Hid (s + 1 = (h + (j + 1)) % N) := by unfold Hid; rw [Hst.out, ← Hs2.out, if_neg hw]
            go_wp2_with fail
            go_roundw
            case rel => exact ⟨j + 1, s + 1, by omega, by go_num, by omega, Hst', trivial⟩
            case measure =>
              have e1 := Hd1.out; have e2 := Hd2.out
              rw [← Hs2.out] at e1; rw [← Hst'.out] at e2
              have e3 : (intOf (Value.int .i64 ((s : Int) + 1))).toNat = s + 1 := by simp [intOf]
              rw [e3]
              show ((h + J) % N + N - (s + 1)) % N < ((h + J) % N + N - s) % N
              omega
        · obtain rfl : j = J := by omega
          have hnz : (sl[s] != 0) = false := by
            have := Hz.out
            rw [← Hs2.out, List.getElem?_eq_getElem hsl] at this
            simpa using this
          have HP' : Hid (putSlot sl ks[k] k = sl.set s ((k : Int) + 1)) := by unfold Hid; rw [HP.out, ← Hs2.out]
          have Hsl := Lib.hid hsl
          go_wp2_with fail
          go_roundw
          case rel => exact ⟨k + 1, sl.set s ((k : Int) + 1), by omega, by go_num, Lib.hid (by rw [List.length_set]; exact HL.out), Lib.hid (by have := nz_set sl s ((k : Int) + 1); have := HZ.out; omega), Lib.hid (by rw [HF.out, HS.out, HP'.out]), Lib.hid (HO.out.set Hsl.out _), qr.setCell (p := ⟨w.heap.size, s, none⟩) (Nat.le_refl _) _⟩
          case measure => simp [intOf]; omega
    · have HS := Lib.hid (layF_end ks k sl (by omega))
      go_wp2_with fail
      go_ret
      exact ⟨w.heap.size, rfl, Nat.le_refl _, by rw [HF.out, HS.out]; exact HO.out, qr⟩
end Go.Proofs.Ytjgbheidkjgncaa.Hs

namespace Go.Proofs.Ytjgbheidkjgncaa.Kit
open Go.RowKit

/-- the cells that a slice value reads -/
def Src (w : World) (A : Option Addr) (cs : List Value) : Prop := 0 < cs.length → ∃ ad, A = some ad ∧ ∀ j v, cs[j]? = some v → w.cell? (ad.add j) = some v
theorem Src.keep {w w' : World} {A : Option Addr} {cs : List Value} {B : Nat} (h : Src w A cs) (hb : Below B w w') (hlt : ∀ ad, A = some ad → ad.block < B) : Src w' A cs := fun h0 => by
  obtain ⟨ad, e, hc⟩ := h h0
  refine ⟨ad, e, fun j v hv => (hb.cell ?_).trans (hc j v hv)⟩
  have : (ad.add j).block = ad.block := by unfold Addr.add; split <;> rfl
  rw [this]; exact hlt ad e

section
variable {P : Program} (w : World)
theorem run_append_none (base : Nat) (t ty e : TypeId) (i : TypeInfo) (size : Nat) (ht : P.underlying t = some (.slice e)) (hi : P.info? e = some i)
    (v : Value) (n : Nat) (xs : List Value) (hown : w.ownsRow base e size v n xs) (c : Nat) : (Builtin.append_ #[t, t] ty #[v, .slice none 0 c]).run P w = .ok v w := by
  obtain ⟨_, ⟨rfl, rfl⟩ | ⟨g, cap, cur, rfl, _, _, hnc, _⟩⟩ := hown
  · simp [Builtin.append_, run_underlying ht, sizeOf, typeInfo, hi, Builtin.lenOf, Builtin.firstCells]
  · simp [Builtin.append_, run_underlying ht, sizeOf, typeInfo, hi, Builtin.lenOf, Builtin.firstCells, hnc, storeCells]
theorem run_append_src (base : Nat) (t ty e : TypeId) (i : TypeInfo) (z : Value) (size bytes : Nat) (ht : P.underlying t = some (.slice e)) (hi : P.info? e = some i) (hz : i.zero = some z)
    (hsize : i.size = size) (hby : i.bytes = bytes) (hzs : z.cells.size = size) (hsz : 0 < size)
    (v : Value) (n : Nat) (xs : List Value) (hown : w.ownsRow base e size v n xs)
    (A : Option Addr) (m c : Nat) (cs : List Value) (hl : cs.length = m * size) (hc : Src w A cs) (h1 : ∀ u ∈ cs, u.oneCell' = true)
    (h63 : n + m ≤ maxLen) (hbytes : (n + m) * bytes ≤ 140737488355328) (hbase : base ≤ w.heap.size) :
    ∃ v' w', (Builtin.append_ #[t, t] ty #[v, .slice A m c]).run P w = .ok v' w' ∧ w'.ownsRow base e size v' (n + m) (xs ++ cs) ∧ w.grownBy w' v.ownBlock ∧
      (v'.ownBlock = v.ownBlock ∨ v'.ownBlock = some w.heap.size) := by
  cases A with
  | none =>
    have h0 : ¬ 0 < cs.length := fun h => by obtain ⟨ad, e, _⟩ := hc h; cases e
    obtain rfl : cs = [] := List.eq_nil_of_length_eq_zero (by omega)
    have hm : m = 0 := by
      rcases Nat.eq_zero_or_pos m with e | e
      · exact e
      · have := Nat.mul_pos e hsz
        simp at hl
        omega
    subst hm
    exact ⟨v, w, run_append_none w base t ty e i size ht hi v n xs hown c, by simpa using hown, World.grownBy.refl w _, .inl rfl⟩
  | some ad =>
    have hn : ∀ j u, cs[j]? = some u → w.cell? (ad.add j) = some u := fun j u hu => by
      have hj := (List.getElem?_eq_some_iff.1 hu).1
      obtain ⟨ad', e, h⟩ := hc (by omega)
      injection e with e
      subst e
      exact h j u hu
    obtain ⟨v', w', hr, h2, h3, _, h5⟩ := run_append_own_at (P := P) w base t ty e i z size bytes ht hi hz hsize hby hzs hsz v n xs hown ad m c cs hl hn h1 h63 hbytes hbase
    exact ⟨v', w', hr, h2, h3, h5⟩
theorem wp_append_src {o : Oper} {a : Act} {K : Act → World → Prop} {R : Exit → Act → World → Prop} (s x : Operand) (t : TypeId)
    (ho : o.op = .call { callee := .builtin .append, args := #[s, x], argTypes := #[t, t] })
    (base : Nat) (e : TypeId) (i : TypeInfo) (z : Value) (size bytes : Nat) (ht : P.underlying t = some (.slice e)) (hi : P.info? e = some i) (hz : i.zero = some z)
    (hsize : i.size = size) (hby : i.bytes = bytes) (hzs : z.cells.size = size) (hsz : 0 < size)
    (v : Value) (n : Nat) (xs : List Value) (hs : a.eval s = v) (hown : w.ownsRow base e size v n xs)
    (A : Option Addr) (m c : Nat) (cs : List Value) (hx : a.eval x = .slice A m c) (hl : cs.length = m * size) (hc : Src w A cs) (h1 : ∀ u ∈ cs, u.oneCell' = true)
    (h63 : n + m ≤ maxLen) (hbytes : (n + m) * bytes ≤ 140737488355328) (hbase : base ≤ w.heap.size)
    (h : ∀ v' w', w'.ownsRow base e size v' (n + m) (xs ++ cs) → w.grownBy w' v.ownBlock → (v'.ownBlock = v.ownBlock ∨ v'.ownBlock = some w.heap.size) → K (a.put o.dst v') w') : o.wp P a w K R := by
  obtain ⟨v', w', hrun, h2, h3, h4⟩ := run_append_src (P := P) w base t o.type e i z size bytes ht hi hz hsize hby hzs hsz v n xs hown A m c cs hl hc h1 h63 hbytes hbase
  unfold Oper.wp execOp
  simp only [ho, resolve, invoke, builtin, Sem.run_bind, Sem.run_pure, Result.andThen_ok, List.map_toArray, List.map_cons, List.map_nil, hs, hx, hrun]
  exact h v' w' h2 h3 h4
theorem wpList_append_src {ops : Array Oper} {rest : List Oper} {o : Oper} {a : Act} {R : Exit → Act → World → Prop} (hgd : o.guard = none) (s x : Operand) (t : TypeId)
    (ho : o.op = .call { callee := .builtin .append, args := #[s, x], argTypes := #[t, t] })
    (base : Nat) (e : TypeId) (i : TypeInfo) (z : Value) (size bytes : Nat) (ht : P.underlying t = some (.slice e)) (hi : P.info? e = some i) (hz : i.zero = some z)
    (hsize : i.size = size) (hby : i.bytes = bytes) (hzs : z.cells.size = size) (hsz : 0 < size)
    (v : Value) (n : Nat) (xs : List Value) (hs : a.eval s = v) (hown : w.ownsRow base e size v n xs)
    (A : Option Addr) (m c : Nat) (cs : List Value) (hx : a.eval x = .slice A m c) (hl : cs.length = m * size) (hc : Src w A cs) (h1 : ∀ u ∈ cs, u.oneCell' = true)
    (h63 : n + m ≤ maxLen) (hbytes : (n + m) * bytes ≤ 140737488355328) (hbase : base ≤ w.heap.size)
    (h : ∀ v' w', w'.ownsRow base e size v' (n + m) (xs ++ cs) → w.grownBy w' v.ownBlock → (v'.ownBlock = v.ownBlock ∨ v'.ownBlock = some w.heap.size) → wpList P ops R rest (a.put o.dst v') w') : wpList P ops R (o :: rest) a w :=
  wpList_plain hgd fun _ hK => wp_append_src w s x t ho base e i z size bytes ht hi hz hsize hby hzs hsz v n xs hs hown A m c cs hx hl hc h1 h63 hbytes hbase fun v' w' h2 h3 h4 => hK _ _ (h v' w' h2 h3 h4)
end

/-- a block of no cells, made by the call, is an empty row of its own -/
theorem own_empty {w : World} {base g : Nat} {e : TypeId} {size : Nat} (hb : base ≤ g) (hg : w.heap[g]? = some (.cells #[] e (0, 0))) : w.ownsRow base e size (.slice (some ⟨g, 0, none⟩) 0 0) 0 [] :=
  ⟨by simp, .inr ⟨g, 0, #[], rfl, hb, hg, Nat.le_refl _, Nat.zero_le _, by simp, by simp⟩⟩
/-- the cells of a block that is known whole -/
theorem src_block {w : World} {g : Nat} {cs : Array Value} {t : TypeId} {fr : Nat × Nat} (hg : w.heap[g]? = some (.cells cs t fr)) : Src w (some ⟨g, 0, none⟩) cs.toList :=
  fun _ => ⟨_, rfl, World.news_of_block hg⟩
end Go.Proofs.Ytjgbheidkjgncaa.Kit

namespace Go.Proofs.Ytjgbheidkjgncaa.Hs
open Go.RowKit Kit

/-- a slice value that reads these cells, below block B -/
def SrcB (w : World) (B : Nat) (A : Option Addr) (cs : List Value) : Prop := 0 < cs.length → ∃ ad, A = some ad ∧ ad.block < B ∧ ∀ j v, cs[j]? = some v → w.cell? (ad.add j) = some v
theorem SrcB.keep {w w' : World} {B : Nat} {A : Option Addr} {l : List Value} (h : SrcB w B A l) (hb : Below B w w') : SrcB w' B A l := fun h0 => by
  obtain ⟨ad, e, hlt, hc⟩ := h h0
  exact ⟨ad, e, hlt, fun i s hs => (hb.cell (by rw [add_block]; exact hlt)).trans (hc i s hs)⟩
theorem SrcB.src {w : World} {B : Nat} {A : Option Addr} {l : List Value} (h : SrcB w B A l) : Src w A l := fun h0 => by
  obtain ⟨ad, e, _, hc⟩ := h h0
  exact ⟨ad, e, hc⟩
theorem SrcB.more {w : World} {B B' : Nat} {A : Option Addr} {l : List Value} (h : SrcB w B A l) (hB : B ≤ B') : SrcB w B' A l := fun h0 => by
  obtain ⟨ad, e, hlt, hc⟩ := h h0
  exact ⟨ad, e, by omega, hc⟩
/-- a slice value that reads as these rows of cells, below block B -/
def Rws (w : World) (B : Nat) (A : Option Addr) (rs : List (List Value)) : Prop :=
  0 < rs.length → ∃ ad, A = some ad ∧ ad.block < B ∧ ∀ i r, rs[i]? = some r → ∃ a c, w.cell? (ad.add i) = some (.slice a r.length c) ∧ SrcB w B a r
theorem Rws.keep {w w' : World} {B : Nat} {A : Option Addr} {l : List (List Value)} (h : Rws w B A l) (hb : Below B w w') : Rws w' B A l := fun h0 => by
  obtain ⟨ad, e, hlt, hc⟩ := h h0
  refine ⟨ad, e, hlt, fun i s hs => ?_⟩
  obtain ⟨a, c, c0, hi⟩ := hc i s hs
  exact ⟨a, c, (hb.cell (by rw [add_block]; exact hlt)).trans c0, hi.keep hb⟩
theorem Rws.at_ {w : World} {B : Nat} {A : Option Addr} {l : List (List Value)} (h : Rws w B A l) {k : Nat} (hk : k < l.length) :
    ∃ ad, A = some ad ∧ ad.block < B ∧ ∃ a c, w.cell? (ad.add k) = some (.slice a l[k].length c) ∧ SrcB w B a l[k] := by
  obtain ⟨ad, e, hlt, hc⟩ := h (by omega)
  exact ⟨ad, e, hlt, hc k l[k] (List.getElem?_eq_getElem hk)⟩

/-- how many cells the first k rows have -/
def upTo (rs : List (List Value)) (k : Nat) : List Value := (rs.take k).flatten
theorem upTo_succ (rs : List (List Value)) (k : Nat) (h : k < rs.length) : upTo rs (k + 1) = upTo rs k ++ rs[k] := by
  unfold upTo
  rw [List.take_succ_eq_append_getElem h, List.flatten_append]
  simp
theorem upTo_all (rs : List (List Value)) (k : Nat) (h : rs.length ≤ k) : upTo rs k = rs.flatten := by unfold upTo; rw [List.take_of_length_le h]
theorem upTo_le (rs : List (List Value)) (k : Nat) : (upTo rs k).length ≤ rs.flatten.length := by
  have e : rs.flatten = upTo rs k ++ (rs.drop k).flatten := by unfold upTo; rw [← List.flatten_append, List.take_append_drop]
  rw [e, List.length_append]; omega

theorem sliceInfo : (Try.prog.info? 24).map (fun i => (i.zero, i.size, i.bytes)) = some (some (.slice none 0 0), 1, 24) := by kernel_rfl
def GrowPost (E : TypeId) (w : World) (e : Ending) (w' : World) : Prop := ∃ v, e = .returned v ∧ w'.ownsRow w.heap.size E 1 v 0 [] ∧ Q w w'
def ConcatPost (E : TypeId) (rs : List (List Value)) (w : World) (e : Ending) (w' : World) : Prop := ∃ v, e = .returned v ∧ w'.ownsRow w.heap.size E 1 v rs.flatten.length rs.flatten ∧ Q w w'

set_option maxRecDepth 100000 in
set_option maxHeartbeats 1000000 in
theorem growK_any (n : Nat) (w : World) (hn : n ≤ 100000) : Calls Try.prog 65 #[.slice none 0 0, .int .i64 (n : Int)] w (GrowPost 24 w) := by
  obtain ⟨i0, hi, hz0, hz1, hz2⟩ := info_parts sliceInfo
  by_cases h0 : n = 0
  · subst h0
    clear hi hz0 hz1 hz2
    go_enter Try.func65, Try.ntmps65
    go_wp2_with fail
    go_ret
    exact ⟨_, rfl, World.ownsRow_nil _ _ _ _, Q.refl _⟩
  · have hrz := fun ty => Lib.run_append_nil_zeros (P := Try.prog) w 23 3 ty 24 i0 _ .i64 .i64 Try.underlying23 Try.underlying3 hi hz0 n (by omega) (by omega) (by omega) (by rw [hz2]; omega)
    have hge := grownCap_ge w n 0 24
    have hle := grownCap_le_maxLen w n 0 24 (by unfold maxLen; omega)
    obtain ⟨cap, hcap⟩ : ∃ cap, cap = grownCap w n 0 24 := ⟨_, rfl⟩
    rw [← hcap] at hrz hge hle
    have HL := Lib.hid hle
    have h1 : 0 < n := by omega
    obtain ⟨O, hO⟩ : ∃ O, O = Builtin.zeroCells (Value.slice none 0 0).cells n ++ Builtin.zeroCells (Value.slice none 0 0).cells (cap - n) := ⟨_, rfl⟩
    have hsz : O.size = cap := by rw [hO]; simp [Builtin.zeroCells, Value.cells]; omega
    rw [← hO] at hrz
    have Hsz := Lib.hid hsz
    clear hi hz0 hz1 hz2 hcap hO hsz h0 hle
    have Hrz := Lib.hid hrz
    clear hrz
    unfold maxLen at HL
    have hle := HL.out
    go_enter Try.func65, Try.ntmps65
    go_wp2_with (at_builtin; refine Lib.wpList_append_run _ rfl _ _ _ _ rfl _ _ rfl rfl _ _ (Hrz.out _) ?_)
    go_ret
    exact ⟨_, rfl, ⟨rfl, .inr ⟨w.heap.size, cap, O, rfl, Nat.le_refl _, heap_alloc_new w.drew _, by omega, by unfold maxLen; exact HL.out, by rw [Hsz.out]; omega, by simp⟩⟩, ((Q.refl w).drew).alloc _⟩

set_option maxRecDepth 100000 in
set_option maxHeartbeats 1000000 in
theorem concatK_any (A : Option Addr) (n c : Nat) (rs : List (List Value)) (w : World) (hn : n = rs.length) (hr : Rws w w.heap.size A rs) (hl : rs.length ≤ 10000) (ht : rs.flatten.length ≤ 100000) (h1 : ∀ r ∈ rs, ∀ u ∈ r, u.oneCell' = true) :
    Calls Try.prog 59 #[.slice A n c] w (ConcatPost 24 rs w) := by
  subst hn
  obtain ⟨i0, hi, hz0, hz1, hz2⟩ := info_parts sliceInfo
  have Hi := Lib.hid hi
  have Hz0 := Lib.hid hz0
  have Hz1 := Lib.hid hz1
  have Hz2 := Lib.hid hz2
  clear hi hz0 hz1 hz2
  go_enter Try.func59, Try.ntmps59
  go_wp2_with fail
  go_loopw [3, 11] (fun s i wr => ∃ k m : Nat, k ≤ rs.length ∧ i = .int .i64 k ∧ s = .int .i64 m ∧ m ≤ 100000 ∧ Hid (m = (upTo rs k).length) ∧ w = wr) (fun _ i _ => rs.length - (intOf i).toNat)
  case atStart => exact ⟨0, 0, Nat.zero_le _, rfl, rfl, by omega, Lib.hid rfl, rfl⟩
  case round =>
    obtain ⟨k, m, hk, rfl, rfl, hm, HM, rfl⟩ := hrel
    by_cases hlt : k < rs.length
    · obtain ⟨ad, rfl, hb, a, c1, c0, hs⟩ := hr.at_ hlt
      have HU := Lib.hid (upTo_succ rs k hlt)
      have hle := upTo_le rs (k + 1)
      have hb2 : m + rs[k].length ≤ 100000 := by rw [HU.out, List.length_append] at hle; have := HM.out; omega
      clear hr hs hle
      go_wp2_with fail
      go_roundw
      case rel => exact ⟨k + 1, m + rs[k].length, by omega, by go_num, by go_num, hb2, Lib.hid (by rw [HU.out, List.length_append, HM.out]), trivial⟩
      case measure => simp [intOf]; omega
    · go_wp2_with fail
      refine (growK_any _ _ hm).mono ?_
      rintro e w1 ⟨v, rfl, own, q1⟩
      have Hown := Lib.hid own
      clear own
      go_wp2_with fail
      go_loopw [6, 27] (fun v i wr => ∃ k : Nat, k ≤ rs.length ∧ i = .int .i64 k ∧ Hid (wr.ownsRow w.heap.size 24 1 v (upTo rs k).length (upTo rs k)) ∧ Q w wr) (fun _ i _ => rs.length - (intOf i).toNat)
      case atStart => exact ⟨0, Nat.zero_le _, rfl, Hown, q1⟩
      case round =>
        obtain ⟨k', hk', rfl, HO, qr⟩ := hrel
        by_cases hlt' : k' < rs.length
        · obtain ⟨ad, rfl, hb, a, c1, c0, hs⟩ := (hr.keep qr).at_ hlt'
          have Hs := Lib.hid hs
          have HU := Lib.hid (upTo_succ rs k' hlt')
          have hle := upTo_le rs (k' + 1)
          have Hb2 : Hid ((upTo rs k').length + rs[k'].length ≤ 100000) := by rw [HU.out, List.length_append] at hle; exact Lib.hid (by omega)
          have H1 := Lib.hid (h1 _ (List.getElem_mem hlt'))
          have hb' := Hb2.out
          clear hs hle
          go_wp2_with (at_builtin; refine wpList_append_src _ rfl (.tmp 31) (.tmp 32) _ rfl w.heap.size 24 i0 _ 1 24 Try.underlying23 Hi.out Hz0.out Hz1.out Hz2.out rfl (by omega) _ (upTo rs k').length (upTo rs k') rfl HO.out a rs[k'].length c1 rs[k'] rfl (by omega) Hs.out.src H1.out (by unfold maxLen; omega) (by omega) qr.size ?_; intro v' w' own' gr' _)
          have q2 : Q w w' := qr.grown gr' qr.size (fun b hb => (HO.out.lt b hb).1)
          have Ho := Lib.hid own'
          clear own' gr'
          go_wp2_with fail
          go_roundw
          case rel => exact ⟨k' + 1, by omega, by go_num, by rw [HU.out, List.length_append]; exact Ho, q2⟩
          case measure => simp [intOf]; omega
        · have HU := Lib.hid (upTo_all rs k' (by omega))
          go_wp2_with fail
          go_ret
          exact ⟨_, rfl, by rw [← HU.out]; exact HO.out, qr⟩

set_option maxRecDepth 100000 in
set_option maxHeartbeats 1000000 in
theorem growI_any (n : Nat) (w : World) (hn : n ≤ 100000) : Calls Try.prog 61 #[.slice none 0 0, .int .i64 (n : Int)] w (GrowPost 3 w) := by
  obtain ⟨i0, hi, hz0, hz1, hz2⟩ := info_parts intInfo
  by_cases h0 : n = 0
  · subst h0
    clear hi hz0 hz1 hz2
    go_enter Try.func61, Try.ntmps61
    go_wp2_with fail
    go_ret
    exact ⟨_, rfl, World.ownsRow_nil _ _ _ _, Q.refl _⟩
  · have hrz := fun ty => Lib.run_append_nil_zeros (P := Try.prog) w 24 3 ty 3 i0 _ .i64 .i64 Try.underlying24 Try.underlying3 hi hz0 n (by omega) (by omega) (by omega) (by rw [hz2]; omega)
    have hge := grownCap_ge w n 0 3
    have hle := grownCap_le_maxLen w n 0 3 (by unfold maxLen; omega)
    obtain ⟨cap, hcap⟩ : ∃ cap, cap = grownCap w n 0 3 := ⟨_, rfl⟩
    rw [← hcap] at hrz hge hle
    have HL := Lib.hid hle
    have h1 : 0 < n := by omega
    obtain ⟨O, hO⟩ : ∃ O, O = Builtin.zeroCells (Value.int .i64 0).cells n ++ Builtin.zeroCells (Value.int .i64 0).cells (cap - n) := ⟨_, rfl⟩
    have hsz : O.size = cap := by rw [hO]; simp [Builtin.zeroCells, Value.cells]; omega
    rw [← hO] at hrz
    have Hsz := Lib.hid hsz
    clear hi hz0 hz1 hz2 hcap hO hsz h0 hle
    have Hrz := Lib.hid hrz
    clear hrz
    unfold maxLen at HL
    have hle := HL.out
    go_enter Try.func61, Try.ntmps61
    go_wp2_with (at_builtin; refine Lib.wpList_append_run _ rfl _ _ _ _ rfl _ _ rfl rfl _ _ (Hrz.out _) ?_)
    go_ret
    exact ⟨_, rfl, ⟨rfl, .inr ⟨w.heap.size, cap, O, rfl, Nat.le_refl _, heap_alloc_new w.drew _, by omega, by unfold maxLen; exact HL.out, by rw [Hsz.out]; omega, by simp⟩⟩, ((Q.refl w).drew).alloc _⟩

set_option maxRecDepth 100000 in
set_option maxHeartbeats 1000000 in
theorem concatI_any (A : Option Addr) (n c : Nat) (rs : List (List Value)) (w : World) (hn : n = rs.length) (hr : Rws w w.heap.size A rs) (hl : rs.length ≤ 10000) (ht : rs.flatten.length ≤ 100000) (h1 : ∀ r ∈ rs, ∀ u ∈ r, u.oneCell' = true) :
    Calls Try.prog 48 #[.slice A n c] w (ConcatPost 3 rs w) := by
  subst hn
  obtain ⟨i0, hi, hz0, hz1, hz2⟩ := info_parts intInfo
  have Hi := Lib.hid hi
  have Hz0 := Lib.hid hz0
  have Hz1 := Lib.hid hz1
  have Hz2 := Lib.hid hz2
  clear hi hz0 hz1 hz2
  go_enter Try.func48, Try.ntmps48
  go_wp2_with fail
  go_loopw [3, 11] (fun s i wr => ∃ k m : Nat, k ≤ rs.length ∧ i = .int .i64 k ∧ s = .int .i64 m ∧ m ≤ 100000 ∧ Hid (m = (upTo rs k).length) ∧ w = wr) (fun _ i _ => rs.length - (intOf i).toNat)
  case atStart => exact ⟨0, 0, Nat.zero_le _, rfl, rfl, by omega, Lib.hid rfl, rfl⟩
  case round =>
    obtain ⟨k, m, hk, rfl, rfl, hm, HM, rfl⟩ := hrel
    by_cases hlt : k < rs.length
    · obtain ⟨ad, rfl, hb, a, c1, c0, hs⟩ := hr.at_ hlt
      have HU := Lib.hid (upTo_succ rs k hlt)
      have hle := upTo_le rs (k + 1)
      have hb2 : m + rs[k].length ≤ 100000 := by rw [HU.out, List.length_append] at hle; have := HM.out; omega
      clear hr hs hle
      go_wp2_with fail
      go_roundw
      case rel => exact ⟨k + 1, m + rs[k].length, by omega, by go_num, by go_num, hb2, Lib.hid (by rw [HU.out, List.length_append, HM.out]), trivial⟩
      case measure => simp [intOf]; omega
    · go_wp2_with fail
      refine (growI_any _ _ hm).mono ?_
      rintro e w1 ⟨v, rfl, own, q1⟩
      have Hown := Lib.hid own
      clear own
      go_wp2_with fail
      go_loopw [6, 27] (fun v i wr => ∃ k : Nat, k ≤ rs.length ∧ i = .int .i64 k ∧ Hid (wr.ownsRow w.heap.size 3 1 v (upTo rs k).length (upTo rs k)) ∧ Q w wr) (fun _ i _ => rs.length - (intOf i).toNat)
      case atStart => exact ⟨0, Nat.zero_le _, rfl, Hown, q1⟩
      case round =>
        obtain ⟨k', hk', rfl, HO, qr⟩ := hrel
        by_cases hlt' : k' < rs.length
        · obtain ⟨ad, rfl, hb, a, c1, c0, hs⟩ := (hr.keep qr).at_ hlt'
          have Hs := Lib.hid hs
          have HU := Lib.hid (upTo_succ rs k' hlt')
          have hle := upTo_le rs (k' + 1)
          have Hb2 : Hid ((upTo rs k').length + rs[k'].length ≤ 100000) := by rw [HU.out, List.length_append] at hle; exact Lib.hid (by omega)
          have H1 := Lib.hid (h1 _ (List.getElem_mem hlt'))
          have hb' := Hb2.out
          clear hs hle
          go_wp2_with (at_builtin; refine wpList_append_src _ rfl (.tmp 31) (.tmp 32) _ rfl w.heap.size 3 i0 _ 1 8 Try.underlying24 Hi.out Hz0.out Hz1.out Hz2.out rfl (by omega) _ (upTo rs k').length (upTo rs k') rfl HO.out a rs[k'].length c1 rs[k'] rfl (by omega) Hs.out.src H1.out (by unfold maxLen; omega) (by omega) qr.size ?_; intro v' w' own' gr' _)
          have q2 : Q w w' := qr.grown gr' qr.size (fun b hb => (HO.out.lt b hb).1)
          have Ho := Lib.hid own'
          clear own' gr'
          go_wp2_with fail
          go_roundw
          case rel => exact ⟨k' + 1, by omega, by go_num, by rw [HU.out, List.length_append]; exact Ho, q2⟩
          case measure => simp [intOf]; omega
        · have HU := Lib.hid (upTo_all rs k' (by omega))
          go_wp2_with fail
          go_ret
          exact ⟨_, rfl, by rw [← HU.out]; exact HO.out, qr⟩

def ClonePost (sl : List Int) (w : World) (e : Ending) (w' : World) : Prop :=
  ∃ A c, e = .returned (.slice A sl.length c) ∧ (0 < sl.length → ∃ g, A = some ⟨g, 0, none⟩ ∧ w.heap.size ≤ g ∧ OwnI w' g sl) ∧ Q w w'
def cellsI (sl : List Int) : List Value := sl.map (Value.int .i64)
theorem cellsI_get {sl : List Int} {j : Nat} {v : Value} (h : (cellsI sl)[j]? = some v) : ∃ x, sl[j]? = some x ∧ v = .int .i64 x := by
  unfold cellsI at h
  rw [List.getElem?_map, Option.map_eq_some_iff] at h
  obtain ⟨x, h1, h2⟩ := h
  exact ⟨x, h1, h2.symm⟩
theorem cellsI_one (sl : List Int) : ∀ u ∈ cellsI sl, u.oneCell' = true := fun u hu => by
  unfold cellsI at hu
  rw [List.mem_map] at hu
  obtain ⟨x, _, rfl⟩ := hu
  rfl
theorem Ints.srcB {w : World} {B : Nat} {A : Option Addr} {sl : List Int} (h : Ints w B A sl) : SrcB w B A (cellsI sl) := fun h0 => by
  obtain ⟨ad, e, hlt, hc⟩ := h (by simpa [cellsI] using h0)
  refine ⟨ad, e, hlt, fun j v hv => ?_⟩
  obtain ⟨x, hx, rfl⟩ := cellsI_get hv
  exact hc j x hx
theorem OwnI.of_own {w : World} {base g n cap : Nat} {e : TypeId} {sl : List Int} (h : w.ownsRow base e 1 (.slice (some ⟨g, 0, none⟩) n cap) n (cellsI sl)) : OwnI w g sl := by
  refine ⟨(h.lt g rfl).2, fun i x hx => ⟨?_, h.frozenAt i⟩⟩
  have := h.cells (g := g) rfl i (.int .i64 x) (by unfold cellsI; rw [List.getElem?_map, hx]; rfl)
  rwa [add_zero_head] at this

set_option maxRecDepth 100000 in
set_option maxHeartbeats 1000000 in
theorem clone_any (A : Option Addr) (n c : Nat) (sl : List Int) (w : World) (hn : n = sl.length) (hr : Ints w w.heap.size A sl) (hl : sl.length ≤ 100000) :
    Calls Try.prog 43 #[.slice A n c] w (ClonePost sl w) := by
  subst hn
  have heq := fun u => Lib.run_eql_slice_nil (P := Try.prog) u 24 3 A sl.length c 0 0 Try.underlying24
  cases A with
  | none =>
    have e : sl = [] := by
      rcases Nat.eq_zero_or_pos sl.length with h | h
      · exact List.eq_nil_of_length_eq_zero h
      · obtain ⟨_, e, _⟩ := hr h; cases e
    subst e
    have heq' : ∀ u, (binOp .eql 24 (.slice none 0 c) (.slice none 0 0)).run Try.prog u = .ok (.bool true) u := heq
    clear heq hr hl
    go_enter Try.func43, Try.ntmps43
    go_wp2_with fail
    go_ret
    exact ⟨none, 0, rfl, fun h => by simp at h, Q.refl _⟩
  | some ad =>
    have heq' : ∀ u, (binOp .eql 24 (.slice (some ad) sl.length c) (.slice none 0 0)).run Try.prog u = .ok (.bool false) u := heq
    obtain ⟨i0, hi, hz0, hz1, hz2⟩ := info_parts intInfo
    have Hi := Lib.hid hi
    have Hz0 := Lib.hid hz0
    have Hz1 := Lib.hid hz1
    have Hz2 := Lib.hid hz2
    have Hs := Lib.hid (hr.srcB.keep ((Q.refl w).alloc (Obj.cells #[] 3)))
    have Ho := Lib.hid (own_empty (base := w.heap.size) (e := 3) (size := 1) (Nat.le_refl _) (heap_alloc_new w (Obj.cells #[] 3)))
    clear heq hi hz0 hz1 hz2 hr
    go_enter Try.func43, Try.ntmps43
    go_wp2_with (at_builtin; refine wpList_append_src _ rfl (.tmp 5) (.tmp 6) _ rfl w.heap.size 3 i0 _ 1 8 Try.underlying24 Hi.out Hz0.out Hz1.out Hz2.out rfl (by omega) (.slice (some ⟨w.heap.size, 0, none⟩) 0 0) 0 [] rfl Ho.out (some ad) sl.length c (cellsI sl) rfl (by simp [cellsI]) Hs.out.src (cellsI_one sl) (by unfold maxLen; omega) (by omega) (by simp) ?_; intro v' w' own' gr' _)
    have q2 : Q w w' := ((Q.refl w).alloc (Obj.cells #[] 3)).grown gr' (by simp) (by simp [Value.ownBlock])
    rw [Nat.zero_add, List.nil_append] at own'
    have Ho' := Lib.hid own'
    clear own' gr'
    go_wp2_with fail
    go_ret
    have own' := Ho'.out
    have own2 := own'
    obtain ⟨_, ⟨rfl, hx⟩ | ⟨g, cap, cur, rfl, hg, _⟩⟩ := own'
    · have e : sl.length = 0 := hx
      exact ⟨none, 0, by rw [e]; rfl, fun h => by omega, q2⟩
    · exact ⟨_, cap, rfl, fun _ => ⟨g, rfl, hg, OwnI.of_own own2⟩, q2⟩
end Go.Proofs.Ytjgbheidkjgncaa.Hs

namespace Go.Proofs.Ytjgbheidkjgncaa.Hs
open Go.RowKit Kit

/-- the values of a row's cells -/
theorem Keys.vals {w : World} {B : Nat} {A : Option Addr} {ks : List (List Int)} (h : Keys w B A ks) :
    ∃ vs : List Value, vs.length = ks.length ∧ SrcB w B A vs ∧ ∀ (i : Nat) (k : List Int), ks[i]? = some k → ∃ a c, k.length ≤ c ∧ vs[i]? = some (Value.slice a k.length c) ∧ Ints w B a k := by
  rcases Nat.eq_zero_or_pos ks.length with h0 | h0
  · obtain rfl := List.eq_nil_of_length_eq_zero h0
    exact ⟨[], rfl, fun h => by simp at h, fun i k hk => by simp at hk⟩
  · obtain ⟨ad, e, hlt, hc⟩ := h h0
    have hv : ∀ (i : Nat) (k : List Int), ks[i]? = some k → ∃ a c, k.length ≤ c ∧ ((List.range ks.length).map fun i => (w.cell? (ad.add i)).getD undef)[i]? = some (Value.slice a k.length c) ∧ w.cell? (ad.add i) = some (Value.slice a k.length c) ∧ Ints w B a k := fun i k hk => by
      obtain ⟨a, c, hle, c0, hi⟩ := hc i k hk
      have hil := (List.getElem?_eq_some_iff.1 hk).1
      exact ⟨a, c, hle, by simp [hil, c0], c0, hi⟩
    refine ⟨(List.range ks.length).map fun i => (w.cell? (ad.add i)).getD undef, by simp, fun _ => ⟨ad, e, hlt, fun j v hj => ?_⟩, fun i k hk => ?_⟩
    · have hjl : j < ks.length := by have := (List.getElem?_eq_some_iff.1 hj).1; simpa using this
      obtain ⟨a, c, _, h1, h2, _⟩ := hv j ks[j] (List.getElem?_eq_getElem hjl)
      rw [h1] at hj
      rw [h2, hj]
    · obtain ⟨a, c, hle, h1, _, h3⟩ := hv i k hk
      exact ⟨a, c, hle, h1, h3⟩
theorem vals_one {w : World} {B : Nat} {ks : List (List Int)} {vs : List Value} (hl : vs.length = ks.length) (h : ∀ (i : Nat) (k : List Int), ks[i]? = some k → ∃ a c, k.length ≤ c ∧ vs[i]? = some (Value.slice a k.length c) ∧ Ints w B a k) : ∀ u ∈ vs, u.oneCell' = true := fun u hu => by
  obtain ⟨i, hi, rfl⟩ := List.getElem_of_mem hu
  obtain ⟨a, c, _, e, _⟩ := h i ks[i] (List.getElem?_eq_getElem (by omega))
  rw [List.getElem?_eq_getElem hi] at e
  injection e with e
  rw [e]
  rfl

/-- a slice value that reads as these numbers, all in block gr -/
def IntsIn (w : World) (gr : Nat) (A : Option Addr) (xs : List Int) : Prop := 0 < xs.length → ∃ ad, A = some ad ∧ ad.block = gr ∧ ∀ i x, xs[i]? = some x → w.cell? (ad.add i) = some (.int .i64 x)
theorem IntsIn.ints {w : World} {gr B : Nat} {A : Option Addr} {xs : List Int} (h : IntsIn w gr A xs) (hB : gr < B) : Ints w B A xs := fun h0 => by
  obtain ⟨ad, e, hb, hc⟩ := h h0
  exact ⟨ad, e, by omega, hc⟩
theorem IntsIn.set {w : World} {gr : Nat} {A : Option Addr} {xs : List Int} (h : IntsIn w gr A xs) {g i : Nat} (hg : g ≠ gr) (v : Value) : IntsIn (w.setCell ⟨g, i, none⟩ v) gr A xs := fun h0 => by
  obtain ⟨ad, e, hb, hc⟩ := h h0
  refine ⟨ad, e, hb, fun j x hx => (World.cell?_setCell_far _ _ _ _ ?_).trans (hc j x hx)⟩
  rw [add_block, hb]; exact hg
theorem IntsIn.take {w : World} {gr : Nat} {A : Option Addr} {xs : List Int} (h : IntsIn w gr A xs) (n : Nat) : IntsIn w gr A (xs.take n) := fun h0 => by
  have h1 : 0 < xs.length := by rw [List.length_take] at h0; omega
  obtain ⟨ad, e, hb, hc⟩ := h h1
  refine ⟨ad, e, hb, fun i x hx => hc i x ?_⟩
  rw [List.getElem?_take] at hx
  split at hx
  · exact hx
  · cases hx
def cutAt (A : Option Addr) (c n : Nat) : Option Addr := if c = n then A else A.map (·.add n)
theorem IntsIn.drop {w : World} {gr : Nat} {A : Option Addr} {xs : List Int} (h : IntsIn w gr A xs) (n c : Nat) (hc : xs.length ≤ c) : IntsIn w gr (cutAt A c n) (xs.drop n) := fun h0 => by
  rw [List.length_drop] at h0
  obtain ⟨ad, rfl, hb, hcc⟩ := h (by omega)
  refine ⟨ad.add n, ?_, by rw [add_block]; exact hb, fun i x hx => ?_⟩
  · unfold cutAt; rw [if_neg (by omega)]; rfl
  · rw [List.getElem?_drop] at hx
    rw [Addr.add_add]
    exact hcc _ x hx

/-- the row that is filled: its cells are slices of the keys' lengths; the first k read as the keys -/
def Fill (w : World) (g gr : Nat) (ks : List (List Int)) (k : Nat) : Prop :=
  ∀ i key, ks[i]? = some key → w.frozen? ⟨g, i, none⟩ = false ∧ ∃ a c, key.length ≤ c ∧ w.cell? ⟨g, i, none⟩ = some (.slice a key.length c) ∧ (i < k → IntsIn w gr a key)
theorem Fill.step {w : World} {g gr : Nat} {ks : List (List Int)} {k : Nat} (h : Fill w g gr ks k) (hk : k < ks.length) (hg : g ≠ gr) {a : Option Addr} (ha : IntsIn w gr a ks[k]) :
    Fill (w.setCell ⟨g, k, none⟩ (.slice a ks[k].length ks[k].length)) g gr ks (k + 1) := fun i key hi => by
  obtain ⟨f, a', c', hle, c0, hI⟩ := h i key hi
  rw [World.frozen?_setCell]
  by_cases e : k = i
  · subst e
    rw [List.getElem?_eq_getElem hk] at hi
    obtain rfl : ks[k] = key := by simpa using hi
    exact ⟨f, a, _, Nat.le_refl _, World.cell?_setCell_same' _ _ _ (by rw [c0]; rfl), fun _ => ha.set hg _⟩
  · refine ⟨f, a', c', hle, ?_, fun hlt => (hI (by omega)).set hg _⟩
    have := World.cell?_setCell_other (w := w) (a := ⟨g, k, none⟩) (b := ⟨g, i, none⟩) (v := .slice a ks[k].length ks[k].length) (by intro h; injection h with _ h; exact e h)
    exact this.trans c0
theorem mem_len {ks : List (List Int)} {k : List Int} (h : k ∈ ks) : k.length ≤ ks.flatten.length := by
  induction ks with
  | nil => cases h
  | cons x l ih =>
    rw [List.flatten_cons, List.length_append]
    rcases List.mem_cons.1 h with rfl | h
    · omega
    · have := ih h; omega
theorem Fill.keys {w W : World} {g gr lo B : Nat} {ks : List (List Int)} (h : Fill w g gr ks ks.length) (hg : g < B) (hgr : gr < B ∨ ks.flatten.length = 0) (l1 : lo ≤ g) (l2 : lo ≤ gr) (hW : ∀ p : Addr, lo ≤ p.block → p.block < B → W.cell? p = w.cell? p) : Keys W B (some ⟨g, 0, none⟩) ks := fun _ => by
  refine ⟨_, rfl, hg, fun i k hk => ?_⟩
  obtain ⟨_, a, c, hle, c0, hI⟩ := h i k hk
  have hil := (List.getElem?_eq_some_iff.1 hk).1
  refine ⟨a, c, hle, by rw [add_zero_head, hW _ l1 hg]; exact c0, ?_⟩
  intro hp
  obtain ⟨ad, e, hb, hc⟩ := hI hil hp
  have hgB : gr < B := by
    rcases hgr with hgr | h0
    · exact hgr
    · have : k.length ≤ ks.flatten.length := mem_len (List.mem_of_getElem? hk)
      omega
  exact ⟨ad, e, by omega, fun j x hx => by rw [hW _ (by rw [add_block, hb]; exact l2) (by rw [add_block, hb]; exact hgB)]; exact hc j x hx⟩

theorem slice_hm (A : Option Addr) (n c l : Nat) (h : l ≤ c) (u : World) : (Instr.slice 24 (.slice A n c) none (some (.int .i64 (l : Int))) (some (.int .i64 (l : Int)))).run Try.prog u = .ok (.slice A l l) u := by
  obtain ⟨i0, hi, hz0, hz1, hz2⟩ := info_parts intInfo
  simp [Instr.slice, run_underlying Try.underlying24, Instr.sliceBounds, Instr.sliceBound, asIntOf, sizeOf, typeInfo, hi, h, Addr.add]
theorem slice_l (A : Option Addr) (n c l : Nat) (h : l ≤ n) (u : World) : (Instr.slice 24 (.slice A n c) (some (.int .i64 (l : Int))) none none).run Try.prog u = .ok (.slice (cutAt A c l) (n - l) (c - l)) u := by
  obtain ⟨i0, hi, hz0, hz1, hz2⟩ := info_parts intInfo
  simp [Instr.slice, run_underlying Try.underlying24, Instr.sliceBounds, Instr.sliceBound, asIntOf, sizeOf, typeInfo, hi, hz1, h, cutAt]

theorem own_form {w : World} {base n : Nat} {e : TypeId} {v : Value} {xs : List Value} (h : w.ownsRow base e 1 v n xs) :
    ∃ A c, v = .slice A n c ∧ n ≤ c ∧ (0 < n → ∃ g, A = some ⟨g, 0, none⟩ ∧ base ≤ g ∧ g < w.heap.size ∧ ∀ j u, xs[j]? = some u → w.cell? ⟨g, j, none⟩ = some u ∧ w.frozen? ⟨g, j, none⟩ = false) := by
  have h2 := h
  obtain ⟨hl, ⟨rfl, rfl⟩ | ⟨g, cap, cur, rfl, hg, hh, hc, _⟩⟩ := h
  · exact ⟨none, 0, rfl, Nat.le_refl _, fun h => by omega⟩
  · refine ⟨_, cap, rfl, hc, fun _ => ⟨g, rfl, hg, (Array.getElem?_eq_some_iff.1 hh).1, fun j u hu => ⟨?_, h2.frozenAt j⟩⟩⟩
    have := h2.cells (g := g) rfl j u hu
    rwa [add_zero_head] at this

def CopyPost (ks : List (List Int)) (w : World) (e : Ending) (w' : World) : Prop :=
  ∃ A c, e = .returned (.slice A ks.length c) ∧ (∀ W : World, (∀ p : Addr, w.heap.size ≤ p.block → p.block < w'.heap.size → W.cell? p = w'.cell? p) → Keys W w'.heap.size A ks) ∧ Q w w' ∧ ks.length ≤ c

theorem flat_cells (ks : List (List Int)) : (ks.map cellsI).flatten = cellsI ks.flatten := by
  induction ks with
  | nil => rfl
  | cons k ks ih => simp [cellsI] at ih ⊢; exact ih
theorem two_rows (w : World) (A A' : Option Addr) (n c n' c' : Nat) (V V' : List Value) (t : TypeId) (hn : n = V.length) (hn' : n' = V'.length) (h : SrcB w w.heap.size A V) (h' : SrcB w w.heap.size A' V') :
    Rws (w.alloc (.cells #[.slice A n c, .slice A' n' c'] t)) (w.alloc (.cells #[.slice A n c, .slice A' n' c'] t)).heap.size (some ⟨w.heap.size, 0, none⟩) [V, V'] := fun _ => by
  subst hn
  subst hn'
  have q := (Q.refl w).alloc (.cells #[.slice A V.length c, .slice A' V'.length c'] t)
  refine ⟨_, rfl, by simp, fun i r hr => ?_⟩
  rw [add_zero_head, cell_of_row _ _ _ _ _ _ (heap_alloc_new w _)]
  match i, hr with
  | 0, hr =>
    obtain rfl : V = r := by simpa using hr
    exact ⟨A, c, rfl, (h.keep q).more q.size⟩
  | 1, hr =>
    obtain rfl : V' = r := by simpa using hr
    exact ⟨A', c', rfl, (h'.keep q).more q.size⟩

theorem vals_append {w : World} {B : Nat} {ks ks' : List (List Int)} {vs vs' : List Value} (hl : vs.length = ks.length) (h : ∀ (i : Nat) (k : List Int), ks[i]? = some k → ∃ a c, k.length ≤ c ∧ vs[i]? = some (Value.slice a k.length c) ∧ Ints w B a k)
    (h' : ∀ (i : Nat) (k : List Int), ks'[i]? = some k → ∃ a c, k.length ≤ c ∧ vs'[i]? = some (Value.slice a k.length c) ∧ Ints w B a k) :
    ∀ (i : Nat) (k : List Int), (ks ++ ks')[i]? = some k → ∃ a c, k.length ≤ c ∧ (vs ++ vs')[i]? = some (Value.slice a k.length c) ∧ Ints w B a k := fun i k hk => by
  rw [List.getElem?_append] at hk ⊢
  rw [hl]
  split at hk
  · rename_i h1; rw [if_pos h1]; exact h i k hk
  · rename_i h1; rw [if_neg h1]; exact h' _ k hk

set_option maxRecDepth 100000 in
set_option maxHeartbeats 1000000 in
theorem copyKeys_any (A A' : Option Addr) (n c n' c' : Nat) (ks ks' : List (List Int)) (w : World) (hn : n = ks.length) (hn' : n' = ks'.length) (hk : Keys w w.heap.size A ks) (hk' : Keys w w.heap.size A' ks')
    (hl : (ks ++ ks').length ≤ 10000) (ht : (ks ++ ks').flatten.length ≤ 100000) :
    Calls Try.prog 44 #[.slice A n c, .slice A' n' c'] w (CopyPost (ks ++ ks') w) := by
  obtain ⟨V, hV, sV, vV⟩ := hk.vals
  obtain ⟨V', hV', sV', vV'⟩ := hk'.vals
  have hW := Lib.hid (two_rows w A A' n c n' c' V V' 23 (by omega) (by omega) sV sV')
  have H1 : Hid (∀ r ∈ [V, V'], ∀ u ∈ r, u.oneCell' = true) := fun r hr u hu => by
    simp only [List.mem_cons, List.not_mem_nil, or_false] at hr
    rcases hr with rfl | rfl
    · exact vals_one hV vV u hu
    · exact vals_one hV' vV' u hu
  have HV := Lib.hid (vals_append hV vV vV')
  obtain ⟨K, hK⟩ : ∃ K, K = ks ++ ks' := ⟨_, rfl⟩
  have HL : Hid ([V, V'].flatten.length = K.length) := by rw [hK]; exact Lib.hid (by simp [hV, hV'])
  have HF : Hid ([V, V'].flatten = V ++ V') := Lib.hid (by simp)
  rw [← hK] at hl ht HV ⊢
  clear hK hn hn' hk hk' sV vV sV' vV' hV hV'
  go_enter Try.func44, Try.ntmps44
  go_wp2_with fail
  refine (concatK_any _ _ _ [V, V'] _ rfl hW.out (by simp) (by rw [HL.out]; omega) H1.out).mono ?_
  rintro e w1 ⟨v1, rfl, own1, q1⟩
  rw [HL.out, HF.out] at own1
  have q01 := ((Q.refl w).alloc (.cells #[.slice A n c, .slice A' n' c'] 23)).trans q1
  obtain ⟨A1, c1, hv1, hcp1, hf1⟩ := own_form own1
  have Hcp := Lib.hid hcp1
  clear hcp1
  rw [hv1]
  obtain ⟨g, hg⟩ : ∃ g, 0 < K.length → A1 = some ⟨g, 0, none⟩ ∧ w.heap.size ≤ g ∧ g < w1.heap.size ∧ ∀ j u, (V ++ V')[j]? = some u → w1.cell? ⟨g, j, none⟩ = some u ∧ w1.frozen? ⟨g, j, none⟩ = false := by
    by_cases h0 : 0 < K.length
    · obtain ⟨g, h1, h2, h3, h4⟩ := hf1 h0
      exact ⟨g, fun _ => ⟨h1, by simp at h2; omega, h3, h4⟩⟩
    · exact ⟨0, fun h => absurd h h0⟩
  have HR : Hid (Rws w1 w1.heap.size A1 (K.map cellsI)) := fun h0 => by
    obtain ⟨h1, _, h3, h4⟩ := hg (by simpa using h0)
    refine ⟨_, h1, h3, fun i r hr => ?_⟩
    rw [List.getElem?_map, Option.map_eq_some_iff] at hr
    obtain ⟨k, hk, rfl⟩ := hr
    obtain ⟨a, cc, _, hv, hi⟩ := HV.out i k hk
    exact ⟨a, cc, by rw [add_zero_head, (h4 i _ hv).1]; simp [cellsI], ((hi.q (Nat.le_refl _) q01).more q01.size).srcB⟩
  obtain ⟨T, hT⟩ : ∃ T, T = K.flatten.length := ⟨_, rfl⟩
  have HT : Hid ((K.map cellsI).flatten.length = T) := Lib.hid (by rw [flat_cells, hT]; unfold cellsI; rw [List.length_map])
  have HT' := Lib.hid hT
  rw [← hT] at ht
  clear hT
  have HO1 : Hid (∀ r ∈ K.map cellsI, ∀ u ∈ r, u.oneCell' = true) := fun r hr => by
    rw [List.mem_map] at hr
    obtain ⟨k, _, rfl⟩ := hr
    exact cellsI_one k
  have Hg := Lib.hid hg
  clear hv1 hf1 hg own1 q1 hW H1
  go_wp2_with fail
  refine (concatI_any _ _ _ (K.map cellsI) _ (by simp) HR.out (by rw [List.length_map]; exact hl) (by rw [HT.out]; exact ht) HO1.out).mono ?_
  rintro e w2 ⟨v2, rfl, own2, q2⟩
  rw [HT.out, flat_cells] at own2
  obtain ⟨A2, c2, hv2, hc2, hf2⟩ := own_form own2
  rw [hv2]
  have q02 := q01.trans q2
  obtain ⟨gr, hgr1, HI2, hgr2⟩ : ∃ gr, w1.heap.size ≤ gr ∧ Hid (IntsIn w2 gr A2 K.flatten) ∧ (gr < w2.heap.size ∨ K.flatten.length = 0) := by
    by_cases h0 : 0 < K.flatten.length
    · obtain ⟨gr, h1, h2, h3, h4⟩ := hf2 (by rw [HT'.out]; exact h0)
      refine ⟨gr, h2, Lib.hid fun _ => ⟨_, h1, rfl, fun i x hx => ?_⟩, .inl h3⟩
      rw [add_zero_head]
      exact (h4 i (.int .i64 x) (by unfold cellsI; rw [List.getElem?_map, hx]; rfl)).1
    · exact ⟨w1.heap.size, Nat.le_refl _, Lib.hid fun h => absurd h h0, .inr (by omega)⟩
  have HF0 : Hid (Fill w2 g gr K 0) := fun i key hi => by
    have hil := (List.getElem?_eq_some_iff.1 hi).1
    obtain ⟨_, _, h3, h4⟩ := Hg.out (by omega)
    obtain ⟨a, cc, hle, hv, _⟩ := HV.out i key hi
    have := h4 i _ hv
    exact ⟨(q2.frozen (p := ⟨g, i, none⟩) h3).trans this.2, a, cc, hle, (q2.cell (p := ⟨g, i, none⟩) h3).trans this.1, fun h => by omega⟩
  have Hgr2 := Lib.hid hgr2
  clear hv2 hf2 own2 HR HO1 HV hgr2
  go_wp2_with fail
  go_loopw [6, 17] (fun r i wr => ∃ (k R cr : Nat) (Ar : Option Addr), k ≤ K.length ∧ i = .int .i64 k ∧ r = .slice Ar R cr ∧ R ≤ cr ∧ R ≤ 100000 ∧ Hid (R = (K.drop k).flatten.length) ∧ Hid (IntsIn wr gr Ar (K.drop k).flatten) ∧ Hid (Fill wr g gr K k) ∧ Hid (wr.heap.size = w2.heap.size) ∧ Q w wr) (fun _ i _ => K.length - (intOf i).toNat)
  case atStart => exact ⟨0, _, _, _, Nat.zero_le _, rfl, rfl, hc2, ht, HT', HI2, HF0, Lib.hid rfl, q02⟩
  case round =>
    obtain ⟨k, R, cr, Ar, hk, rfl, rfl, hRc, hR, HRl, HI, HFi, Hsz, qr⟩ := hrel
    by_cases hlt : k < K.length
    · obtain ⟨rfl, hwg, hg1, _⟩ := Hg.out (by omega)
      obtain ⟨f0, a0, cc, _, k0, _⟩ := HFi.out k K[k] (List.getElem?_eq_getElem hlt)
      have hD : (K.drop k).flatten = K[k] ++ (K.drop (k + 1)).flatten := by rw [List.drop_eq_getElem_cons hlt, List.flatten_cons]
      have hLR : K[k].length ≤ R := by have := HRl.out; rw [hD, List.length_append] at this; omega
      have hLc : K[k].length ≤ cr := by omega
      have hs1 := slice_hm Ar R cr K[k].length hLc
      have hs2 := slice_l Ar R cr K[k].length hLR
      have HIk : Hid (IntsIn wr gr Ar K[k]) := by
        have := HI.out.take K[k].length
        rw [hD, List.take_left'] at this
        · exact this
        · rfl
      have HId : Hid (IntsIn wr gr (cutAt Ar cr K[k].length) (K.drop (k + 1)).flatten) := by
        have := HI.out.drop K[k].length cr (by have := HRl.out; omega)
        rw [hD, List.drop_left'] at this
        · exact this
        · rfl
      have HRd : Hid (R - K[k].length = (K.drop (k + 1)).flatten.length) := by have := HRl.out; rw [hD, List.length_append] at this; exact Lib.hid (by omega)
      have hgg : g ≠ gr := by omega
      have Hlt := Lib.hid hlt
      clear hD
      go_wp2_with fail
      go_roundw
      case rel => exact ⟨k + 1, _, _, _, by omega, by go_num, rfl, by omega, by omega, HRd, Lib.hid (HId.out.set hgg _), Lib.hid (HFi.out.step Hlt.out hgg HIk.out), Lib.hid (by rw [← Hsz.out]; simp [World.setCell]), qr.setCell (p := ⟨g, k, none⟩) hwg _⟩
      case measure => simp [intOf]; omega
    · obtain rfl : k = K.length := by omega
      go_wp2_with fail
      go_ret
      refine ⟨A1, c1, rfl, fun W hW h0 => ?_, qr, Hcp.out⟩
      obtain ⟨rfl, hg0, hg1, _⟩ := Hg.out h0
      exact HFi.out.keys (by rw [Hsz.out]; have := q2.size; omega) (by rw [Hsz.out]; exact Hgr2.out) hg0 (by have := q01.size; omega) hW h0
end Go.Proofs.Ytjgbheidkjgncaa.Hs

namespace Go.Proofs.Ytjgbheidkjgncaa.Hs
open Go.RowKit Kit

def SameAsPost (ks : List (List Int)) (key : List Int) (w : World) (e : Ending) (w' : World) : Prop :=
  ∃ Bk Be, e = .returned (.func (.func 58) #[] #[.pointer (some ⟨Bk, 0, none⟩), .pointer (some ⟨Be, 0, none⟩)]) ∧ Q w w' ∧
    ∀ x W, Q w' W → Calls Try.prog 58 #[.int .i64 x, .pointer (some ⟨Bk, 0, none⟩), .pointer (some ⟨Be, 0, none⟩)] W fun e W' => e = .returned (.bool (sameP ks key x)) ∧ ∃ d, W' = W.drewN d
theorem sameAsQ_any (A E : Option Addr) (n c n' c' : Nat) (ks : List (List Int)) (key : List Int) (w : World) (hn : n = ks.length) (hn' : n' = key.length) (hk : Keys w w.heap.size A ks) (he : Ints w w.heap.size E key) (hs : ∀ k ∈ ks, k.length ≤ maxLen) :
    Calls Try.prog 42 #[.slice A n c, .slice E n' c'] w (SameAsPost ks key w) := by
  subst hn
  subst hn'
  refine (sameAs_any A E _ c _ c' w).mono ?_
  rintro e w' ⟨rfl, rfl⟩
  have q := ((Q.refl w).alloc (.cells #[.slice A ks.length c] 23)).alloc (.cells #[.slice E key.length c'] 24)
  have b1 := (Boxed.new w 23 (.slice A ks.length c)).alloc (.cells #[.slice E key.length c'] 24)
  have b2 := Boxed.new (w.alloc (.cells #[.slice A ks.length c] 23)) 24 (.slice E key.length c')
  rw [World.size_alloc] at b2
  refine ⟨_, _, rfl, q, fun x W hW => ?_⟩
  have q' := q.trans hW
  exact same1_any w.heap.size (w.heap.size + 1) A E c c' ks key x W ((hk.q (Nat.le_refl _) q').more q'.size) ((he.q (Nat.le_refl _) q').more q'.size) hs ((hW.cell (p := ⟨w.heap.size, 0, none⟩) b1.lt).trans b1.cell) ((hW.cell (p := ⟨w.heap.size + 1, 0, none⟩) b2.lt).trans b2.cell)

set_option maxRecDepth 100000 in
set_option maxHeartbeats 1000000 in
theorem find_any (A S E : Option Addr) (n c m d ke ce : Nat) (ks : List (List Int)) (sl key : List Int) (w : World) (hn : n = ks.length) (hm : m = sl.length) (hke : ke = key.length) (hk : Keys w w.heap.size A ks) (hS : Ints w w.heap.size S sl) (he : Ints w w.heap.size E key)
    (hs : ∀ k ∈ ks, k.length ≤ maxLen) (hkl : key.length ≤ maxLen) (hsl : sl.length ≤ 100000000) :
    Calls Try.prog 54 #[.agg #[.slice A n c, .slice S m d], .slice E ke ce] w fun e w' => e = .returned (.int .i64 (seekI (sameP ks key) sl (hashN key)).2) ∧ Q w w' := by
  subst hn
  subst hm
  subst hke
  have q0 := (Q.refl w).alloc (Obj.cells #[Value.slice A ks.length c, Value.slice S sl.length d] 26)
  have Hk := Lib.hid ((hk.q (Nat.le_refl _) q0).more q0.size)
  have HS := Lib.hid ((hS.q (Nat.le_refl _) q0).more q0.size)
  have He := Lib.hid ((he.q (Nat.le_refl _) q0).more q0.size)
  have Hs := Lib.hid hs
  clear hk hS he hs
  go_enter Try.func54, Try.ntmps54
  go_wp2_with fail
  have k0 : (w.alloc (Obj.cells #[Value.slice A ks.length c, Value.slice S sl.length d] 26)).cell? ⟨w.heap.size, 0, none⟩ = some (.slice A ks.length c) := by simp
  have k1 : (w.alloc (Obj.cells #[Value.slice A ks.length c, Value.slice S sl.length d] 26)).cell? ⟨w.heap.size, 1, none⟩ = some (.slice S sl.length d) := by simp
  have hlt : w.heap.size < (w.alloc (Obj.cells #[Value.slice A ks.length c, Value.slice S sl.length d] 26)).heap.size := by simp
  generalize w.alloc (Obj.cells #[Value.slice A ks.length c, Value.slice S sl.length d] 26) = W0 at *
  go_region_held3 (fun w' => w'.cell? ⟨w.heap.size, 0, none⟩ = some (.slice A ks.length c) ∧ w'.cell? ⟨w.heap.size, 1, none⟩ = some (.slice S sl.length d))
    (first
      | go_keep
      | exact ⟨(p1.cell (p := ⟨w.heap.size, 0, none⟩) hlt).trans k0, (p1.cell (p := ⟨w.heap.size, 1, none⟩) hlt).trans k1⟩
      | exact ⟨((p1.trans q2).cell (p := ⟨w.heap.size, 0, none⟩) hlt).trans k0, ((p1.trans q2).cell (p := ⟨w.heap.size, 1, none⟩) hlt).trans k1⟩)
    (first
      | (go_at_call 41; refine (hashN_any _ _ _ key _ rfl (by exact He.out) hkl).mono ?_; rintro e w' ⟨rfl, rfl⟩)
      | (go_at_call 42; refine (sameAsQ_any _ _ _ _ _ _ ks key _ rfl rfl (by exact Hk.out) (by exact He.out) Hs.out).mono ?_; rintro e w1 ⟨Bk, Be, rfl, q1, hC⟩; have HC := Lib.hid hC; clear hC; have p1 := (Q.refl W0).drew.trans q1)
      | (go_at_call 40; refine (seek_same _ _ _ sl _ (sameP ks key) Bk Be _ rfl (by exact ((HS.out.q (Nat.le_refl _) p1).more p1.size)) (hashN_lt _) hsl HC.out).mono ?_; rintro e w2 ⟨rfl, q2⟩))
  go_wp2_with fail
  go_ret
  exact ⟨rfl, (q0.trans p1).trans q2⟩
end Go.Proofs.Ytjgbheidkjgncaa.Hs
