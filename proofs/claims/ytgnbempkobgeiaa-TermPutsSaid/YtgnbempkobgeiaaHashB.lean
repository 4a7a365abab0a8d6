/-
  Going round the slots: the iterator's contract (round), and the closure that holds keys against a key (sameAs).
-/
import Derived.Test.YtgnbempkobgeiaaHashA
import Derived.RangeFuncNested
import Derived.RangeFuncBound
import Derived.RangeFuncCalls
import Derived.RangeFuncLeaves
import Derived.Shelf.Abstract
import Derived.Shelf.RegionOpen
import Derived.WalkKit
import Derived.OwnWalkIn
import Derived.TacticsInMore
import Derived.LoopNIn
import Derived.LoopIn
namespace Go.Proofs.Ytgnbempkobgeiaa.Hs
open Go.RowKit Go.Shelf Kit

attribute [local go_sem] Oper.semAt_some

/-- what comes, one by one: which slot, and what stands there -/
def visit (sl : List Int) (h j : Nat) : Nat × Int := ((h + j) % sl.length, sl[(h + j) % sl.length]?.getD 0)
def visits (sl : List Int) (h k : Nat) : List (Nat × Int) := (List.range k).map (visit sl h)
theorem visits_succ (sl : List Int) (h k : Nat) : visits sl h (k + 1) = visits sl h k ++ [visit sl h k] := by simp [visits, List.range_succ]
theorem visits_length (sl : List Int) (h k : Nat) : (visits sl h k).length = k := by simp [visits]

set_option maxRecDepth 100000 in
set_option maxHeartbeats 2000000 in
theorem round1_in (n : Nat) (hn : 1 ≤ n) (l Bs Bh n₀ : Nat) (A : Option Addr) (c : Nat) (sl : List Int) (h : Nat) (hh : h < 4294967296) (hl : sl.length ≤ 100000000) (J Jx : List (Nat × Int) → World → Prop)
    (hY : ∀ pre x W, J pre W → pre.length < sl.length → YieldAt Fence.wide (n - 1) Try.prog l #[.int .i64 (x.1 : Int), .int .i64 x.2] W fun e W' =>
      (e = .returned (.bool true) ∧ J (pre ++ [x]) W' ∧ Below n₀ W W') ∨ (e = .returned (.bool false) ∧ Jx (pre ++ [x]) W'))
    (W : World) (hs1 : Bs < n₀) (hs2 : Bh < n₀) (hBs : W.cell? ⟨Bs, 0, none⟩ = some (.slice A sl.length c)) (hBh : W.cell? ⟨Bh, 0, none⟩ = some (.int .u32 (h : Int))) (hc : Ints W n₀ A sl) (h0 : J [] W) :
    CallsIn Fence.wide n Try.prog 71 #[.func (.yield l) #[] #[], .pointer (some ⟨Bs, 0, none⟩), .pointer (some ⟨Bh, 0, none⟩)] W fun e W' => (∃ v, e = .returned v) ∧
      ((∃ ys, ys = visits sl h sl.length ∧ J ys W') ∨ (∃ pre, (∃ k, k ≤ sl.length ∧ pre = visits sl h k) ∧ Jx pre W')) := by
  refine callsIn_of_wp Try.func71 rfl trivial ?_ rfl
  simp only [Try.ntmps71, List.size_toArray, List.length_cons, List.length_nil, Nat.reduceAdd, Nat.reduceSub, Array.replicate_succ, Array.replicate_zero, List.push_toArray, List.append_toArray, List.nil_append, List.cons_append]
  gi_wp2
  gi_loopw [8] (fun i wr => ∃ k : Nat, k ≤ sl.length ∧ i = .int .i64 k ∧ J (visits sl h k) wr ∧ Below n₀ W wr)
    (fun i _ => sl.length - (intOf i).toNat)
  case atStart => exact ⟨0, Nat.zero_le _, rfl, h0, Below.refl _ _⟩
  case round =>
    obtain ⟨k, hk, rfl, hJs, hnx⟩ := hrel
    by_cases hlt : k < sl.length
    · obtain ⟨fn, tmps, assign, body, hy, hR⟩ := hY _ (visit sl h k) wr hJs (by rw [visits_length]; exact hlt)
      obtain ⟨s, hs⟩ : ∃ s, s = (h + k) % sl.length := ⟨_, rfl⟩
      have hsl : s < sl.length := by rw [hs]; exact Nat.mod_lt _ (by omega)
      obtain ⟨ad, rfl, hb, c0⟩ := (hc.keep hnx).at_ hsl
      have b0 := (hnx.cell (p := ⟨Bs, 0, none⟩) hs1).trans hBs
      have b1 := (hnx.cell (p := ⟨Bh, 0, none⟩) hs2).trans hBh
      have e1 : (visit sl h k).1 = s := hs.symm
      have e2 : (visit sl h k).2 = sl[s] := by unfold visit; rw [← hs]; simp [hsl]
      rw [e1, e2] at hy
      clear e1 e2
      have hm : ((h : Int) + (k : Int)) % (sl.length : Int) = (s : Int) := by rw [hs, Int.natCast_emod, Int.natCast_add]
      have HS := Lib.hid hs
      clear hs hY hBs hc
      gi_wp2
      refine hR.mono ?_
      rintro e W3 (⟨rfl, hJ3, hk3⟩ | ⟨rfl, hJx3⟩)
      · gi_wp2
        go_roundw
        case rel => exact ⟨k + 1, by omega, by simp, by rw [visits_succ]; exact hJ3, hnx.trans hk3⟩
        case measure => simp [intOf]; omega
      · gi_wp2
        refine bodyPost_ret (results_none rfl _ _ _) rfl ?_
        exact ⟨⟨_, rfl⟩, .inr ⟨_, ⟨k + 1, by omega, (visits_succ _ _ _).symm⟩, hJx3⟩⟩
    · obtain rfl : k = sl.length := by omega
      gi_wp2
      go_end0
      exact ⟨⟨_, rfl⟩, .inl ⟨_, rfl, hJs⟩⟩

set_option maxHeartbeats 1000000 in
theorem round_in (n : Nat) (A : Option Addr) (len c : Nat) (h : Int) (w : World) :
    CallsIn Fence.wide n Try.prog 64 #[.slice A len c, .int .u32 h] w fun e w' => e = .returned (.func (.func 71) #[] #[.pointer (some ⟨w.heap.size, 0, none⟩), .pointer (some ⟨w.heap.size + 1, 0, none⟩)]) ∧ w' = (w.alloc (.cells #[.slice A len c] 24)).alloc (.cells #[.int .u32 h] 74) := by
  refine callsIn_of_wp Try.func64 rfl trivial ?_ rfl
  simp only [Try.ntmps64, List.size_toArray, List.length_cons, List.length_nil, Nat.reduceAdd, Nat.reduceSub, Array.replicate_succ, Array.replicate_zero, List.push_toArray, List.append_toArray, List.nil_append, List.cons_append]
  gi_wp2
  go_ret
  exact ⟨rfl, rfl⟩

theorem round_stops (n : Nat) (hn : 1 ≤ n) (Bs Bh n₀ : Nat) (A : Option Addr) (c : Nat) (sl : List Int) (h : Nat) (hh : h < 4294967296) (hl : sl.length ≤ 100000000) (w : World) (hs1 : Bs < n₀) (hs2 : Bh < n₀) (hn₀ : n₀ ≤ w.heap.size)
    (hBs : w.cell? ⟨Bs, 0, none⟩ = some (.slice A sl.length c)) (hBh : w.cell? ⟨Bh, 0, none⟩ = some (.int .u32 (h : Int))) (hc : Ints w n₀ A sl) :
    SeqStopsK Fence.wide n Try.prog 71 #[.pointer (some ⟨Bs, 0, none⟩), .pointer (some ⟨Bh, 0, none⟩)] (fun x : Nat × Int => #[Value.int .i64 (x.1 : Int), Value.int .i64 x.2]) (Below n₀) (fun ys => ys = visits sl h sl.length)
      (fun pre => ∃ k, k ≤ sl.length ∧ pre = visits sl h k) sl.length w := fun l J Jx W hW _ _ hY h0 =>
  round1_in n hn l Bs Bh n₀ A c sl h hh hl J Jx hY W hs1 hs2 ((hW.cell (p := ⟨Bs, 0, none⟩) (by show Bs < _; omega)).trans hBs) ((hW.cell (p := ⟨Bh, 0, none⟩) (by show Bh < _; omega)).trans hBh) (hc.keep (hW.mono hn₀)) h0

/-! ### a key held against those of a row -/
/-- a slice value that reads as these rows of numbers, below block B -/
def Keys (w : World) (B : Nat) (A : Option Addr) (ks : List (List Int)) : Prop :=
  0 < ks.length → ∃ ad, A = some ad ∧ ad.block < B ∧ ∀ i k, ks[i]? = some k → ∃ a c, k.length ≤ c ∧ w.cell? (ad.add i) = some (.slice a k.length c) ∧ Ints w B a k
theorem Keys.keep {w w' : World} {B : Nat} {A : Option Addr} {l : List (List Int)} (h : Keys w B A l) (hb : Below B w w') : Keys w' B A l := fun h0 => by
  obtain ⟨ad, e, hlt, hc⟩ := h h0
  refine ⟨ad, e, hlt, fun i s hs => ?_⟩
  obtain ⟨a, c, hle, c0, hi⟩ := hc i s hs
  exact ⟨a, c, hle, (hb.cell (by rw [add_block]; exact hlt)).trans c0, hi.keep hb⟩
theorem Keys.q {w w' : World} {B : Nat} {A : Option Addr} {l : List (List Int)} (h : Keys w B A l) (hB : B ≤ w.heap.size) (hb : Q w w') : Keys w' B A l := h.keep (hb.mono hB)
theorem Keys.more {w : World} {B B' : Nat} {A : Option Addr} {l : List (List Int)} (h : Keys w B A l) (hB : B ≤ B') : Keys w B' A l := fun h0 => by
  obtain ⟨ad, e, hlt, hc⟩ := h h0
  refine ⟨ad, e, by omega, fun i s hs => ?_⟩
  obtain ⟨a, c, hle, c0, hi⟩ := hc i s hs
  exact ⟨a, c, hle, c0, hi.more hB⟩
theorem Keys.at_ {w : World} {B : Nat} {A : Option Addr} {l : List (List Int)} (h : Keys w B A l) {k : Nat} (hk : k < l.length) :
    ∃ ad, A = some ad ∧ ad.block < B ∧ ∃ a c, l[k].length ≤ c ∧ w.cell? (ad.add k) = some (.slice a l[k].length c) ∧ Ints w B a l[k] := by
  obtain ⟨ad, e, hlt, hc⟩ := h (by omega)
  exact ⟨ad, e, hlt, hc k l[k] (List.getElem?_eq_getElem hk)⟩

def sameP (ks : List (List Int)) (key : List Int) (x : Int) : Bool := decide (0 ≤ x) && decide (x < ks.length) && eqL (ks[x.toNat]?.getD []) key

set_option maxRecDepth 100000 in
set_option maxHeartbeats 1000000 in
theorem same1_any (Bk Be : Nat) (A E : Option Addr) (c c' : Nat) (ks : List (List Int)) (key : List Int) (x : Int) (w : World) (hk : Keys w w.heap.size A ks) (he : Ints w w.heap.size E key) (hs : ∀ k ∈ ks, k.length ≤ maxLen)
    (hBk : w.cell? ⟨Bk, 0, none⟩ = some (.slice A ks.length c)) (hBe : w.cell? ⟨Be, 0, none⟩ = some (.slice E key.length c')) :
    Calls Try.prog 65 #[.int .i64 x, .pointer (some ⟨Bk, 0, none⟩), .pointer (some ⟨Be, 0, none⟩)] w fun e w' => e = .returned (.bool (sameP ks key x)) ∧ ∃ d, w' = w.drewN d := by
  by_cases h1 : 0 ≤ x
  · obtain ⟨k, rfl⟩ := Int.eq_ofNat_of_zero_le h1
    by_cases h2 : k < ks.length
    · obtain ⟨ad, rfl, hb, a, c1, hle, c0, hi⟩ := hk.at_ h2
      have HR : Hid (sameP ks key (k : Int) = eqL ks[k] key) := by simp [sameP, h2, Hid]
      have C : Hid (∀ n, Calls Try.prog 45 #[.slice a ks[k].length c1, .slice E key.length c'] (w.drewN n) fun e w' => e = .returned (.bool (eqL ks[k] key)) ∧ ∃ m, w' = (w.drewN n).drewN m) := fun n =>
        equal_any a E _ c1 _ c' ks[k] key (w.drewN n) rfl rfl hi he (hs _ (List.getElem_mem h2))
      clear hk hi he hs
      go_enter Try.func65, Try.ntmps65
      go_wp2_with fail
      go_quiet (first | (go_at_call 45; exact Calls.quiet_of (C.out _)))
      go_wp2_with fail
      go_ret
      exact ⟨by rw [HR.out]; rfl, _, rfl⟩
    · have HR : Hid (sameP ks key (k : Int) = false) := by simp [sameP, h2, Hid]
      go_enter Try.func65, Try.ntmps65
      go_wp2_with fail
      go_quiet (fail)
      go_wp2_with fail
      go_ret
      exact ⟨by rw [HR.out]; rfl, _, rfl⟩
  · have HR : Hid (sameP ks key x = false) := by unfold Hid sameP; rw [decide_eq_false h1]; rfl
    have hd : decide (0 ≤ x) = false := decide_eq_false h1
    clear h1
    go_enter Try.func65, Try.ntmps65
    go_wp2_with fail
    go_quiet (fail)
    go_wp2_with fail
    go_ret
    exact ⟨by rw [HR.out]; rfl, _, rfl⟩

theorem sameAs_any (A E : Option Addr) (n c n' c' : Nat) (w : World) :
    Calls Try.prog 56 #[.slice A n c, .slice E n' c'] w fun e w' => e = .returned (.func (.func 65) #[] #[.pointer (some ⟨w.heap.size, 0, none⟩), .pointer (some ⟨w.heap.size + 1, 0, none⟩)]) ∧ w' = (w.alloc (.cells #[.slice A n c] 23)).alloc (.cells #[.slice E n' c'] 24) := by
  go_enter Try.func56, Try.ntmps56
  go_wp2_with fail
  go_ret
  exact ⟨rfl, rfl⟩
theorem never_any (x : Int) (w : World) : Calls Try.prog 61 #[.int .i64 x] w fun e w' => e = .returned (.bool false) ∧ w = w' := by
  go_enter Try.func61, Try.ntmps61
  go_wp2_with fail
  go_ret
  exact ⟨rfl, rfl⟩
end Go.Proofs.Ytgnbempkobgeiaa.Hs
