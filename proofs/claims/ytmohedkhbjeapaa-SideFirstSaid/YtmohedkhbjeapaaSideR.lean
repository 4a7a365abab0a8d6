/-
  Contract of bytes.Repeat at one byte, some times: a new row of it.
-/
import Derived.Test.YtmohedkhbjeapaaRef8J
import Derived.Test.YtmohedkhbjeapaaShelf
import Derived.Lib.MakeNoZero
import Derived.Laws.Externs
import Derived.Laws.CopyOwn
import Derived.RegionTactic
namespace Go.Proofs.Ytmohedkhbjeapaa.Ex
open Go.RowKit Kit Rw

theorem mul_one8 (n : Nat) (hn : n ≤ 1000) (w : World) : Calls Try.prog 42 #[.int .u64 1, .int .u64 (n : Int)] w fun e w' => e = .returned (.tuple #[.int .u64 0, .int .u64 (n : Int)]) ∧ w = w' := by
  refine (Try.bits_Mul 1 n (by omega) (by omega) w).mono ?_
  rintro e w' ⟨rfl, h⟩
  refine ⟨?_, h.symm⟩
  have e1 : 1 * n / 18446744073709551616 = 0 := by omega
  have e2 : 1 * n % 18446744073709551616 = n := by omega
  rw [e1, e2]
  rfl
theorem noZero8 (n : Nat) (hn : n ≤ 1000) (w : World) : ∃ (cs : List Value) (w1 : World), n ≤ cs.length ∧ (callFunc 43 #[.int .i64 (n : Int)]).run Try.prog w = .ok (.value (.slice (some ⟨w.heap.size, 0, none⟩) n cs.length)) w1 ∧ w1.heap[w.heap.size]? = some (.cells cs.toArray 5 (0, 0)) ∧ Q w w1 := by
  obtain ⟨cs, hrun, hle, _⟩ := Lib.run_makeNoZero (P := Try.prog) w #[3] 31 5 Try.underlying31 n (by omega)
  refine ⟨cs.toList, (w.alloc (.cells cs 5)).drewN 2, by simpa using hle, ?_, ?_, ((Q.refl w).alloc _).drewN 2⟩
  · rw [run_callFunc_extern Try.func43 (by kernel_rfl) (by kernel_rfl) (by kernel_rfl) (e := Extern.BytealgMakeNoZero.makeNoZero #[3] #[31]) (by kernel_rfl), hrun]
    simp
    rfl
  · rw [Array.toArray_toList]
    exact heap_alloc_new w _
theorem byteSize8 : (Try.prog.info? 5).map (·.size) = some 1 := by kernel_rfl
/-- the first p cells are bytes 66 -/
def Full (w : World) (g n p : Nat) : Prop := ∃ cur : List Value, w.heap[g]? = some (.cells cur.toArray 5 (0, 0)) ∧ n ≤ cur.length ∧ ∀ j, j < p → cur[j]? = some (.int .u8 66)
theorem Full.own {w : World} {g n : Nat} (h : Full w g n n) : OwnC w g (cells8 (List.replicate n 66)) := by
  obtain ⟨cur, hg, hn, hc⟩ := h
  refine ⟨(Array.getElem?_eq_some_iff.1 hg).1, fun i x hx => ?_⟩
  have hi : i < n := by have := (List.getElem?_eq_some_iff.1 hx).1; simpa [cells8] using this
  have e : x = .int .u8 66 := by rw [cells8, List.map_replicate, List.getElem?_replicate, if_pos hi] at hx; simpa using hx.symm
  subst e
  refine ⟨?_, ?_⟩
  · rw [cell_of_row _ _ _ _ _ _ hg]
    simp [hc i hi]
  · simp [World.frozen?, hg]
theorem Full.splice {w' : World} {g n p k : Nat} {cur : List Value} (hn : n ≤ cur.length) (hc : ∀ j, j < p → cur[j]? = some (.int .u8 66)) (hpk : p + k ≤ n) (h : w'.heap[g]? = some (.cells (Go.splice cur p (List.replicate k (.int .u8 66))).toArray 5 (0, 0))) : Full w' g n (p + k) := by
  refine ⟨_, h, by rw [Go.length_splice _ _ _ (by simp; omega)]; exact hn, fun j hj => ?_⟩
  unfold Go.splice
  by_cases hjp : j < p
  · rw [List.getElem?_append_left (by simp; omega), List.getElem?_take_of_lt hjp]
    exact hc j hjp
  · have e1 : (List.take p cur).length = p := by rw [List.length_take]; omega
    rw [List.getElem?_append_right (by omega), e1, List.getElem?_append_left (by simp; omega), List.getElem?_replicate, if_pos (by omega)]

/-- copy of k bytes 66 behind p bytes 66 -/
theorem copy_full {w0 w : World} {g n p k sLen sCap dLen dCap : Nat} {ad : Addr} (hF : Full w g n p) (hk : k = Nat.min sLen dLen) (hpk : p + k ≤ n) (hs : ∀ j, j < k → w.cell? (ad.add j) = some (.int .u8 66)) (hQ : Q w0 w) (hg : w0.heap.size ≤ g) :
    ∃ w', (Builtin.copy_ #[31, 31] 3 #[.slice (some ⟨g, p, none⟩) dLen dCap, .slice (some ad) sLen sCap]).run Try.prog w = .ok (.int .i64 (k : Int)) w' ∧ Full w' g n (p + k) ∧ Q w0 w' := by
  obtain ⟨cur, hh, hn, hc⟩ := hF
  have hrun := run_copy_row (P := Try.prog) w 31 31 3 5 g p dLen dCap ad sLen sCap cur.toArray 5 (List.replicate k (.int .u8 66)) Try.underlying31 byteSize8 hh (by simpa using hk) (fun j v hv => by
    have hj : j < k := by have := (List.getElem?_eq_some_iff.1 hv).1; simpa using this
    rw [List.getElem?_replicate, if_pos hj] at hv
    injection hv with hv
    subst hv
    exact hs j hj) (by simp; omega) (by simp [Value.oneCell'])
  refine ⟨_, hrun.trans (by simp [goInt]; rfl), Full.splice (cur := cur) (k := k) hn hc hpk ?_, below_setRow hQ hg _⟩
  simpa [Go.splice] using setRow_heap w g _ _ _ _ hh

set_option maxRecDepth 100000 in
set_option maxHeartbeats 2000000 in
theorem repeat_any (b n : Nat) (w : World) (hb : w.cell? ⟨b, 0, none⟩ = some (.int .u8 66)) (hlt : b < w.heap.size) (h1 : 1 ≤ n) (hn : n ≤ 600) :
    Calls Try.prog 26 #[.slice (some ⟨b, 0, none⟩) 1 1, .int .i64 (n : Int)] w fun e w' => ∃ g, e = .returned (.slice (some ⟨g, 0, none⟩) n n) ∧ OwnC w' g (cells8 (List.replicate n 66)) ∧ w.heap.size ≤ g ∧ Q w w' := by
  obtain ⟨cs, W1, hle, hcall, hg, hq⟩ := noZero8 n (by omega) w
  have CM := Lib.hid (mul_one8 n (by omega))
  have e0 : ((n : Int) == 0) = false := beq_eq_false_iff_ne.2 (by omega)
  have i1 : (n : Int) ≤ (cs.length : Int) := by omega
  have HQ := Lib.hid hq
  have HG := Lib.hid hg
  have hs0 : ∀ j, j < 1 → W1.cell? ((⟨b, 0, none⟩ : Addr).add j) = some (.int .u8 66) := fun j hj => by
    obtain rfl : j = 0 := by omega
    exact (hq.cell (p := ⟨b, 0, none⟩) hlt).trans hb
  obtain ⟨W2, hcopy, hF2, hq2⟩ := copy_full (w0 := w) (g := w.heap.size) (n := n) (p := 0) (k := 1) (sLen := 1) (sCap := 1) (dLen := n) (dCap := n) (ad := ⟨b, 0, none⟩) ⟨cs, hg, hle, fun j hj => absurd hj (Nat.not_lt_zero _)⟩ (Nat.min_eq_left h1).symm (by omega) hs0 hq (Nat.le_refl _)
  rw [Nat.zero_add] at hF2
  have HF2 := Lib.hid hF2
  have HQ2 := Lib.hid hq2
  clear hq hg hb hle hlt hF2 hq2 HQ HG
  obtain ⟨g, hgz⟩ : ∃ g, g = w.heap.size := ⟨_, rfl⟩
  rw [← hgz] at hcall HF2 hcopy
  have HGZ : Hid (w.heap.size ≤ g) := Nat.le_of_eq hgz.symm
  clear hgz
  go_enter Try.func26, Try.ntmps26
  go_wp2_with (go_at_call 42; refine (CM.out _).mono ?_; rintro e w1 ⟨rfl, rfl⟩)
  go_loopw [10] (fun bp wr => ∃ p : Nat, 1 ≤ p ∧ p ≤ n ∧ bp = .int .i64 p ∧ Hid (Full wr g n p) ∧ Hid (Q w wr)) (fun bp _ => n - (intOf bp).toNat)
  case atStart => exact ⟨1, Nat.le_refl _, h1, rfl, HF2, HQ2⟩
  case round =>
    clear HF2 HQ2 hcopy hcall
    obtain ⟨p, hp1, hpn, rfl, HF, HQ⟩ := hrel
    by_cases hlt : p < n
    · obtain ⟨k, hk⟩ : ∃ k, k = Nat.min p (n - p) := ⟨_, rfl⟩
      have hkl : k ≤ p := hk ▸ Nat.min_le_left _ _
      have hkr : k ≤ n - p := hk ▸ Nat.min_le_right _ _
      have hk0 : 1 ≤ k := hk ▸ Nat.le_min.2 ⟨hp1, by omega⟩
      have hsrc : ∀ j, j < k → wr.cell? ((⟨g, 0, none⟩ : Addr).add j) = some (.int .u8 66) := fun j hj => by
        obtain ⟨cur, hh, hl, hc⟩ := HF.out
        rw [add_zero_head, cell_of_row _ _ _ _ _ _ hh]
        have := hc j (by omega)
        simp [this]
      obtain ⟨W3, hcopy3, hF3, hQ3⟩ := copy_full (w0 := w) (w := wr.drew) (g := g) (n := n) (p := p) (k := k) (sLen := p) (sCap := n) (dLen := n - p) (dCap := n - p) (ad := ⟨g, 0, none⟩) (show Full wr.drew g n p from HF.out) hk (by omega) hsrc HQ.out.drew HGZ.out
      have HF3 := Lib.hid hF3
      have HQ3 := Lib.hid hQ3
      have hpi : (p : Int) ≤ (n : Int) := by omega
      have hwr : IntKind.i64.wrap ((p : Int) + (k : Int)) = (p : Int) + (k : Int) := IntWalk.i64_in _ (by omega)
      clear hF3 hQ3 hsrc hk
      go_wp2_with fail
      go_region
      all_goals
        go_wp2_with fail
        go_roundw
        case rel => exact ⟨p + k, by omega, by omega, by go_num, HF3, HQ3⟩
        case measure => simp [intOf]; omega
    · obtain rfl : p = n := by omega
      go_wp2_with fail
      go_ret
      exact ⟨g, rfl, HF.out.own, HGZ.out, HQ.out⟩
end Go.Proofs.Ytmohedkhbjeapaa.Ex
