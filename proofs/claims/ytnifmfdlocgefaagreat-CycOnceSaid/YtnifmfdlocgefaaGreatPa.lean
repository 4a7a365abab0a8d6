/-
  What the proofs lean on, part 1 of 20.
-/
import Derived.Test.YtnifmfdlocgefaaGreatProg
import Derived.WalkKit
import Derived.ProofKit
import Derived.Carry
import Derived.Handy
import Derived.OpenShut
import Derived.ChangeSame
import Derived.Lib.Hide
import Derived.Deep.Draws
import Derived.Deep.QuietTactic
import Derived.BigQuiet
import Derived.Deep.DeepCutAuto
import Derived.Outline
import Derived.RangeFuncNested
import Derived.RangeFuncBound
import Derived.RangeFuncCalls
import Derived.RangeFuncLeaves
import Derived.Shelf.Abstract
import Derived.Shelf.RegionOpen
import Derived.OwnWalkIn
import Derived.TacticsInMore
import Derived.LoopNIn
import Derived.LoopIn
import Derived.Laws.EntriesVeiled
import Derived.Deep.RegionHeld
import Derived.OwnWalk
import Derived.Laws.MakeOwn
import Derived.Laws.OwnMore
import Derived.Maps.AppendAt
import Derived.Deep.AppendLies
import Derived.Deep.RegionLaw
import Derived.RegionTactic
import Derived.Laws.CopyOwn
import Derived.Lib.AppendZeros
import Derived.Lib.SliceRun
namespace Go.Proofs.YtnifmfdlocgefaaGreat.Kit
open Go.RowKit Go.WideShapes Go.ChangeShapes

/-- old memory is as it was -/
abbrev Q (w w' : World) : Prop := Below w.heap.size w w'
theorem Q.refl (w : World) : Q w w := Below.refl _ _
theorem Q.trans {a b c : World} (h : Q a b) (k : Q b c) : Q a c := Below.trans h (Below.mono k h.size)
theorem Q.alloc {a b : World} (h : Q a b) (o : Obj) : Q a (b.alloc o) := Below.alloc h h.size o
theorem Q.drew {a b : World} (h : Q a b) : Q a b.drew := Below.drew h
theorem Q.drewN {a b : World} (h : Q a b) (n : Nat) : Q a (b.drewN n) := ⟨h.os, h.tape, h.output, h.size, h.block⟩

section
variable {H : Type} {enc : TypeId × Value → H} {P : Program}

/-- all arguments read as they did, where old memory is as it was -/
theorem trodAll_stays (hl : laidOutB P = true) {W W' : World} (hb : Below W.heap.size W W') {sp : Nat → Bool} :
    ∀ (ts : List TypeId) (vs : List Value) (ds : List (DataW H)) (ps : List MemPlace), (∀ t ∈ ts, P.readableRec t = true ∧ t < P.types.size) →
      DataW.TrodAll enc P W 0 (fun _ => true) true ts vs ds ps → (∀ p ∈ ps, p.block < W.heap.size) → (∀ p ∈ ps, sp p.block = true) → DataW.TrodAll enc P W' 0 sp true ts vs ds ps
  | [], _, _, _, _, h, _, _ => by
    obtain ⟨rfl, rfl, rfl⟩ := trodAll_nil h
    exact trodAll_mk0
  | t :: ts, _, _, _, hts, h, hlt, hsp => by
    obtain ⟨v, vs, d, ds, p, q, rfl, rfl, rfl, h1, h2⟩ := trodAll_cons h
    have ht := hts t (List.mem_cons_self ..)
    exact trodAll_cons_mk (WideElems.Trod_stays hl ht.1 ht.2 h1 (fun x hx => hb.same (hlt x (List.mem_append_left _ hx))) (fun x hx => hsp x (List.mem_append_left _ hx)))
      (trodAll_stays hl hb ts vs ds q (fun u hu => hts u (List.mem_cons_of_mem _ hu)) h2 (fun x hx => hlt x (List.mem_append_right _ hx)) (fun x hx => hsp x (List.mem_append_right _ hx)))

/-- A LAW's LAST STEP -/
theorem post_law {f : Func} {s : ChangeSpec} {apart fresh handsOn again : Bool} {W W' : World} {args : Array Value} {ds gs : List (DataW H)} {before : List MemPlace} {tb : TypeId}
    (hl : laidOutB P = true) (hts : ∀ t ∈ f.params.toList, P.readableRec t = true ∧ t < P.types.size) (hv : s.vars = [])
    (hfn : s.fn H (ds ++ gs) = { results := [.lit (.bool true)], args := ds }) (hrt : f.resultTypes = #[tb]) (htb : P.underlying tb = some .bool)
    (hW : DataW.Whole enc P f.params.toList s.vars apart W args.toList ds gs before) (hb : Below W.heap.size W W') :
    s.post enc P f apart fresh handsOn again W args (.bool true) W' := by
  have hlt : ∀ p ∈ before, p.block < W.heap.size := fun p hp => hW.lt p hp
  have hW' := hW
  obtain ⟨p, q, hA, hV, rfl, hz, hn⟩ := hW
  rw [hv] at hV
  obtain ⟨rfl, rfl⟩ := trodVars_none hV
  rw [List.append_nil] at hlt hz hn hW'
  have hargs : ∀ sp : Nat → Bool, (∀ x ∈ p, sp x.block = true) → DataW.TrodAll enc P W' 0 sp true f.params.toList args.toList (s.fn H (ds ++ [])).args p := fun sp hsp => by
    rw [hfn]
    exact trodAll_stays hl hb _ _ _ _ hts hA hlt hsp
  have hres : ∀ (b : Nat) (sp : Nat → Bool) (hd : Bool), DataW.TrodAll enc P W' b sp hd f.resultTypes.toList ((Value.bool true).resultList f.resultTypes.size) (s.fn H (ds ++ [])).results [] := fun b sp hd => by
    rw [hfn, hrt]
    exact trodAll_mk1 (shut_bool htb _)
  have hvars : ∀ sp : Nat → Bool, DataW.TrodVars enc P W' sp s.vars (s.fn H (ds ++ [])).vars [] := fun sp => by
    rw [hfn, hv]
    rfl
  have hold : ∀ x ∈ p, (fun b => decide (b < W.heap.size)) x.block = true := fun x hx => by simpa using hlt x hx
  refine ⟨ds, [], p, [], p, [], hW', hres _ _ _, hargs _ hold, hvars _, World.keptBut_mono (fun x hx => ⟨hx, ?_⟩) (hb.frame (· ∈ p)), fun _ => ?_⟩
  · exact Or.inr (by simpa using hx)
  · refine ⟨ok_one hrt rfl (okWide_bool_mk htb _), _, _, ([] ++ p) ++ [], ⟨[] ++ p, [], trodAll_append (hargs _ (fun _ _ => rfl)) (hres _ _ _), hvars _, rfl, ?_, ?_⟩, ?_⟩
    · intro b off hp
      have hin : MemPlace.cell b off ∈ p := by simpa using hp
      rw [hb.frozen (hlt _ hin)]
      exact hz b off hin
    · intro ha
      simpa using hn ha
    · intro x hx _
      simpa using hx
end

theorem own : ownKnob Tryz.prog.godebug = none := by kernel_rfl
theorem laid : laidOutB Tryz.prog = true := by kernel_rfl
end Go.Proofs.YtnifmfdlocgefaaGreat.Kit

namespace Go.Proofs.YtnifmfdlocgefaaGreat.Hs
open Go.RowKit Kit

/-- a slice value that reads as these numbers, below block B -/
def Ints (w : World) (B : Nat) (A : Option Addr) (xs : List Int) : Prop :=
  0 < xs.length → ∃ ad, A = some ad ∧ ad.block < B ∧ ∀ i x, xs[i]? = some x → w.cell? (ad.add i) = some (.int .i64 x)
theorem add_block (a : Addr) (n : Nat) : (a.add n).block = a.block := by unfold Addr.add; split <;> rfl
theorem Ints.keep {w w' : World} {B : Nat} {A : Option Addr} {l : List Int} (h : Ints w B A l) (hb : Below B w w') : Ints w' B A l := fun h0 => by
  obtain ⟨ad, e, hlt, hc⟩ := h h0
  exact ⟨ad, e, hlt, fun i s hs => (hb.cell (by rw [add_block]; exact hlt)).trans (hc i s hs)⟩
theorem Ints.q {w w' : World} {B : Nat} {A : Option Addr} {l : List Int} (h : Ints w B A l) (hB : B ≤ w.heap.size) (hb : Q w w') : Ints w' B A l := h.keep (hb.mono hB)
theorem Ints.more {w : World} {B B' : Nat} {A : Option Addr} {l : List Int} (h : Ints w B A l) (hB : B ≤ B') : Ints w B' A l := fun h0 => by
  obtain ⟨ad, e, hlt, hc⟩ := h h0
  exact ⟨ad, e, by omega, hc⟩
theorem Ints.at_ {w : World} {B : Nat} {A : Option Addr} {l : List Int} (h : Ints w B A l) {k : Nat} (hk : k < l.length) :
    ∃ ad, A = some ad ∧ ad.block < B ∧ w.cell? (ad.add k) = some (.int .i64 l[k]) := by
  obtain ⟨ad, e, hlt, hc⟩ := h (by omega)
  exact ⟨ad, e, hlt, hc k l[k] (List.getElem?_eq_getElem hk)⟩

def mixB (h b : Int) : Int := bits .xor .u32 h b * 16777619 % 4294967296
def mixN (h m : Int) : Nat → Int
  | 0 => h
  | k + 1 => mixN (mixB h (m % 256)) (m / 256) k
def hashF (h : Int) : List Int → Int
  | [] => h
  | x :: l => hashF (mixN h (IntKind.u64.wrap x) 8) l
def hashI (l : List Int) : Int := hashF 2166136261 l
theorem hashF_at (h : Int) (l : List Int) (k : Nat) (hk : k < l.length) : hashF h (l.drop k) = hashF (mixN h (IntKind.u64.wrap l[k]) 8) (l.drop (k + 1)) := by
  rw [List.drop_eq_getElem_cons hk]; rfl
theorem hashF_end (h : Int) (l : List Int) (k : Nat) (hk : l.length ≤ k) : hashF h (l.drop k) = h := by
  rw [List.drop_eq_nil_of_le hk]; rfl

theorem mix_step (h m : Int) (j : Nat) (hj : j < 8) : mixN h (m / 256 ^ j) (8 - j) = mixN (bits .xor .u32 h (m / 2 ^ (8 * j) % 256) * 16777619 % 4294967296) (m / 256 ^ (j + 1)) (8 - (j + 1)) := by
  have e : 8 - j = (8 - (j + 1)) + 1 := by omega
  rw [e, mixN, mixB, Int.ediv_ediv_of_nonneg (by exact Int.le_of_lt (Int.pow_pos (by omega))), ← Int.pow_succ, Int.pow_mul]
  rfl

set_option maxRecDepth 100000 in
set_option maxHeartbeats 400000 in
theorem hash_any (A : Option Addr) (n c : Nat) (l : List Int) (w : World) (hn : n = l.length) (hr : Ints w w.heap.size A l) (hl : l.length ≤ maxLen) :
    Calls Tryz.prog 232 #[.slice A n c] w fun e w' => e = .returned (.int .u32 (hashI l)) ∧ w = w' := by
  subst hn
  unfold maxLen at hl
  go_enter Tryz.func232, Tryz.ntmps232
  go_wp2_with fail
  go_loopw [3, 5, 9] (fun h _ i wr => ∃ (k : Nat) (g : Int), k ≤ l.length ∧ i = .int .i64 k ∧ h = .int .u32 g ∧ Hid (hashI l = hashF g (l.drop k)) ∧ w = wr) (fun _ _ i _ => l.length - (intOf i).toNat)
  case atStart => exact ⟨0, 2166136261, Nat.zero_le _, rfl, rfl, Lib.hid (by simp [hashI]), rfl⟩
  case round =>
    obtain ⟨k, g, hk, rfl, rfl, HF, rfl⟩ := hrel
    by_cases hlt : k < l.length
    · obtain ⟨ad, rfl, hb, c0⟩ := hr.at_ hlt
      go_wp2_with fail
      go_loopw [3, 13] (fun h i wr => ∃ (j : Nat) (g' : Int), j ≤ 8 ∧ i = .int .i64 j ∧ h = .int .u32 g' ∧ Hid (mixN g (IntKind.u64.wrap l[k]) 8 = mixN g' (IntKind.u64.wrap l[k] / 256 ^ j) (8 - j)) ∧ w = wr) (fun _ i _ => 8 - (intOf i).toNat)
      case atStart => exact ⟨0, g, by omega, rfl, rfl, Lib.hid (by simp), rfl⟩
      case round =>
        obtain ⟨j, g', hj, rfl, rfl, HM, rfl⟩ := hrel
        by_cases hjl : j < 8
        · have HS := Lib.hid (mix_step g' (IntKind.u64.wrap l[k]) j hjl)
          go_wp2_with fail
          go_roundw
          case rel => exact ⟨j + 1, _, by omega, by go_num, rfl, Lib.hid (HM.out.trans HS.out), trivial⟩
          case measure => simp [intOf]; omega
        · obtain rfl : j = 8 := by omega
          have HS : Hid (mixN g (IntKind.u64.wrap l[k]) 8 = g') := HM.out
          have HT := Lib.hid (hashF_at g l k hlt)
          go_wp2_with fail
          go_roundw
          case rel => exact ⟨k + 1, _, by omega, by go_num, rfl, Lib.hid (by rw [HF.out, HT.out, HS.out]), trivial⟩
          case measure => simp [intOf]; omega
    · have HT := Lib.hid (hashF_end g l k (by omega))
      go_wp2_with fail
      go_ret
      exact ⟨by rw [HF.out, HT.out]; rfl, rfl⟩

theorem u64_wrap (x : Int) : 0 ≤ IntKind.u64.wrap x ∧ IntKind.u64.wrap x < 18446744073709551616 := by
  have : IntKind.u64.wrap x = x % 18446744073709551616 := rfl
  rw [this]; omega
theorem mix_step0 (h m : Int) (j : Nat) (hj : j < 8) : mixN h m (8 - j) = mixN (bits .xor .u32 h (m % 256) * 16777619 % 4294967296) (m / 256) (8 - (j + 1)) := by
  have e : 8 - j = (8 - (j + 1)) + 1 := by omega
  rw [e, mixN, mixB]

set_option maxRecDepth 100000 in
set_option maxHeartbeats 400000 in
theorem refHash_any (A : Option Addr) (n c : Nat) (l : List Int) (w : World) (hn : n = l.length) (hr : Ints w w.heap.size A l) (hl : l.length ≤ maxLen) :
    Calls Tryz.prog 114 #[.slice A n c] w fun e w' => e = .returned (.int .u32 (hashI l)) ∧ w = w' := by
  subst hn
  unfold maxLen at hl
  go_enter Tryz.func114, Tryz.ntmps114
  go_wp2_with fail
  go_loopw [3, 4] (fun h i wr => ∃ (k : Nat) (g : Int), k ≤ l.length ∧ i = .int .i64 k ∧ h = .int .u32 g ∧ Hid (hashI l = hashF g (l.drop k)) ∧ w = wr) (fun _ i _ => l.length - (intOf i).toNat)
  case atStart => exact ⟨0, 2166136261, Nat.zero_le _, rfl, rfl, Lib.hid (by simp [hashI]), rfl⟩
  case round =>
    obtain ⟨k, g, hk, rfl, rfl, HF, rfl⟩ := hrel
    by_cases hlt : k < l.length
    · obtain ⟨ad, rfl, hb, c0⟩ := hr.at_ hlt
      have hw0 : 0 ≤ IntKind.u64.wrap l[k] ∧ IntKind.u64.wrap l[k] < 18446744073709551616 := u64_wrap _
      have HW := Lib.hid hw0
      clear hw0
      go_wp2_with fail
      go_loopw [3, 5, 6] (fun h n i wr => ∃ (j : Nat) (g' m : Int), j ≤ 8 ∧ i = .int .i64 j ∧ h = .int .u32 g' ∧ n = .int .u64 m ∧ Hid (0 ≤ m ∧ m < 18446744073709551616) ∧ Hid (mixN g (IntKind.u64.wrap l[k]) 8 = mixN g' m (8 - j)) ∧ w = wr) (fun _ _ i _ => 8 - (intOf i).toNat)
      case atStart => exact ⟨0, g, _, by omega, rfl, rfl, rfl, HW, Lib.hid rfl, rfl⟩
      case round =>
        obtain ⟨j, g', m, hj, rfl, rfl, rfl, HB, HM, rfl⟩ := hrel
        by_cases hjl : j < 8
        · have HS := Lib.hid (mix_step0 g' m j hjl)
          have hm0 : 0 ≤ m := HB.out.1
          have hm1 : Hid (0 ≤ m / 256 ∧ m / 256 < 18446744073709551616) := by have := HB.out; exact Lib.hid (by omega)
          have hdv : IntKind.u64.wrap (m.tdiv 256) = m / 256 := by
            have e : IntKind.u64.wrap (m.tdiv 256) = m.tdiv 256 % 18446744073709551616 := rfl
            have hb := HB.out
            rw [e, Int.tdiv_eq_ediv_of_nonneg hm0]; omega
          go_wp2_with fail
          go_roundw
          case rel => exact ⟨j + 1, _, m / 256, by omega, by go_num, rfl, rfl, hm1, Lib.hid (HM.out.trans HS.out), trivial⟩
          case measure => simp [intOf]; omega
        · obtain rfl : j = 8 := by omega
          have HS : Hid (mixN g (IntKind.u64.wrap l[k]) 8 = g') := HM.out
          have HT := Lib.hid (hashF_at g l k hlt)
          go_wp2_with fail
          go_roundw
          case rel => exact ⟨k + 1, _, by omega, by go_num, rfl, Lib.hid (by rw [HF.out, HT.out, HS.out]), trivial⟩
          case measure => simp [intOf]; omega
    · have HT := Lib.hid (hashF_end g l k (by omega))
      go_wp2_with fail
      go_ret
      exact ⟨by rw [HF.out, HT.out]; rfl, rfl⟩

def sizeG (n p : Nat) : Nat := if h : 6 * p < n ∧ 0 < p then sizeG n (2 * p) else 8 * p
  termination_by n - p
theorem sizeG_lt {n p : Nat} (h : 6 * p < n) (h0 : 0 < p) : sizeG n p = sizeG n (2 * p) := by rw [sizeG, dif_pos ⟨h, h0⟩]
theorem sizeG_ge {n p : Nat} (h : n ≤ 6 * p) : sizeG n p = 8 * p := by rw [sizeG, dif_neg (by omega)]
def sizeN (n : Nat) : Nat := sizeG n 1

set_option maxRecDepth 100000 in
set_option maxHeartbeats 400000 in
theorem refSize_any (n : Nat) (w : World) (hn : n ≤ 1000000) :
    Calls Tryz.prog 113 #[.int .i64 n] w fun e w' => e = .returned (.int .i64 (sizeN n)) ∧ w = w' := by
  go_enter Tryz.func113, Tryz.ntmps113
  go_wp2_with fail
  go_loopw [3] (fun s wr => ∃ p : Nat, 0 < p ∧ p ≤ 1000000 ∧ s = .int .i64 (8 * p) ∧ Hid (sizeN n = sizeG n p) ∧ w = wr) (fun s _ => 8000000 - (intOf s).toNat)
  case atStart => exact ⟨1, by omega, by omega, rfl, Lib.hid rfl, rfl⟩
  case round =>
    obtain ⟨p, hp, hp2, rfl, HS, rfl⟩ := hrel
    by_cases hlt : 6 * p < n
    · have HT := Lib.hid (sizeG_lt hlt hp)
      go_wp2_with fail
      go_roundw
      case rel => exact ⟨2 * p, by omega, by omega, by simp; omega, Lib.hid (HS.out.trans HT.out), trivial⟩
      case measure => simp [intOf]; omega
    · have HT := Lib.hid (sizeG_ge (Nat.le_of_not_lt hlt))
      go_wp2_with fail
      go_ret
      exact ⟨by rw [HS.out, HT.out]; simp, rfl⟩

def eqL : List Int → List Int → Bool
  | [], [] => true
  | x :: l, y :: m => (x == y) && eqL l m
  | _, _ => false
theorem eqL_iff : ∀ (l m : List Int), eqL l m = true ↔ l = m
  | [], [] => by simp [eqL]
  | [], _ :: _ => by simp [eqL]
  | _ :: _, [] => by simp [eqL]
  | x :: l, y :: m => by simp [eqL, eqL_iff l m]
theorem eqL_len {l m : List Int} (h : l.length ≠ m.length) : eqL l m = false := by
  cases e : eqL l m
  · rfl
  · rw [eqL_iff] at e; subst e; exact absurd rfl h
theorem eqL_at (l m : List Int) (k : Nat) (h1 : k < l.length) (h2 : k < m.length) : eqL (l.drop k) (m.drop k) = ((l[k] == m[k]) && eqL (l.drop (k + 1)) (m.drop (k + 1))) := by
  rw [List.drop_eq_getElem_cons h1, List.drop_eq_getElem_cons h2]; rfl
theorem eqL_end (l m : List Int) (k : Nat) (h1 : l.length ≤ k) (h2 : m.length ≤ k) : eqL (l.drop k) (m.drop k) = true := by
  rw [List.drop_eq_nil_of_le h1, List.drop_eq_nil_of_le h2]; rfl

set_option maxRecDepth 100000 in
set_option maxHeartbeats 400000 in
theorem equal_any (A B : Option Addr) (n c n' c' : Nat) (l m : List Int) (w : World) (hn : n = l.length) (hn' : n' = m.length) (hr : Ints w w.heap.size A l) (hr' : Ints w w.heap.size B m) (hl : l.length ≤ maxLen) :
    Calls Tryz.prog 311 #[.slice A n c, .slice B n' c'] w fun e w' => e = .returned (.bool (eqL l m)) ∧ ∃ d, w' = w.drewN d := by
  subst hn
  subst hn'
  unfold maxLen at hl
  by_cases hlen : l.length = m.length
  · have HE := Lib.hid hlen
    have hne : ((l.length : Int) != (m.length : Int)) = false := by simp [hlen]
    clear hlen
    go_enter Tryz.func311, Tryz.ntmps311
    go_wp2_with fail
    go_loopw [5, 13] (fun _ i wr => ∃ k : Nat, k ≤ l.length ∧ i = .int .i64 k ∧ Hid (eqL l m = eqL (l.drop k) (m.drop k)) ∧ ∃ d, wr = w.drewN d) (fun _ i _ => l.length - (intOf i).toNat)
    case atStart => exact ⟨0, Nat.zero_le _, rfl, Lib.hid (by simp), 0, rfl⟩
    case round =>
      obtain ⟨k, hk, rfl, HF, d, rfl⟩ := hrel
      by_cases hlt : k < l.length
      · have hlt' : k < m.length := by have := HE.out; omega
        obtain ⟨ad, rfl, hb, c0⟩ := hr.at_ hlt
        obtain ⟨ad', rfl, hb', c0'⟩ := hr'.at_ hlt'
        have HS := Lib.hid (eqL_at l m k hlt hlt')
        clear hr hr'
        cases he : (l[k] == m[k])
        · have HS' : Hid (eqL (l.drop k) (m.drop k) = false) := by have := HS.out; rw [he] at this; exact this
          have he' : (l[k] != m[k]) = true := by simpa using he
          clear he
          go_wp2_with fail
          go_region
          all_goals go_wp2_with fail
          all_goals go_ret
          all_goals exact ⟨by rw [HF.out, HS'.out]; rfl, d + 1, rfl⟩
        · have HS' : Hid (eqL (l.drop k) (m.drop k) = eqL (l.drop (k + 1)) (m.drop (k + 1))) := by have := HS.out; rw [he] at this; exact this
          have he' : (l[k] != m[k]) = false := by simpa using he
          clear he
          go_wp2_with fail
          go_region
          all_goals go_wp2_with fail
          all_goals go_roundw
          case rel => exact ⟨k + 1, by omega, by go_num, Lib.hid (HF.out.trans HS'.out), d + 1, rfl⟩
          case measure => simp [intOf]; omega
      · have HS := Lib.hid (eqL_end l m k (by omega) (by have := HE.out; omega))
        go_wp2_with fail
        go_ret
        exact ⟨by rw [HF.out, HS.out]; rfl, d, rfl⟩
  · have hne : ((l.length : Int) != (m.length : Int)) = true := by simp; omega
    have HS := Lib.hid (eqL_len hlen)
    go_enter Tryz.func311, Tryz.ntmps311
    go_wp2_with fail
    go_ret
    exact ⟨by rw [HS.out]; rfl, 0, rfl⟩
end Go.Proofs.YtnifmfdlocgefaaGreat.Hs

namespace Go.Proofs.YtnifmfdlocgefaaGreat.Hs
open Go.RowKit Go.Shelf Kit

attribute [local go_sem] Oper.semAt_some

/-- what comes, one by one: which slot, and what stands there -/
def visit (sl : List Int) (h j : Nat) : Nat × Int := ((h + j) % sl.length, sl[(h + j) % sl.length]?.getD 0)
def visits (sl : List Int) (h k : Nat) : List (Nat × Int) := (List.range k).map (visit sl h)
theorem visits_succ (sl : List Int) (h k : Nat) : visits sl h (k + 1) = visits sl h k ++ [visit sl h k] := by simp [visits, List.range_succ]
theorem visits_length (sl : List Int) (h k : Nat) : (visits sl h k).length = k := by simp [visits]

set_option maxRecDepth 100000 in
set_option maxHeartbeats 2000000 in
theorem round1_in (n : Nat) (hn : 1 ≤ n) (l Bs Bh n₀ : Nat) (A : Option Addr) (c : Nat) (sl : List Int) (h : Nat) (hh : h < 4294967296) (hl : sl.length ≤ 100000000) (J Jx : List (Nat × Int) → World → Prop)
    (hY : ∀ pre x W, J pre W → pre.length < sl.length → YieldAt Fence.wide (n - 1) Tryz.prog l #[.int .i64 (x.1 : Int), .int .i64 x.2] W fun e W' =>
      (e = .returned (.bool true) ∧ J (pre ++ [x]) W' ∧ Below n₀ W W') ∨ (e = .returned (.bool false) ∧ Jx (pre ++ [x]) W'))
    (W : World) (hs1 : Bs < n₀) (hs2 : Bh < n₀) (hBs : W.cell? ⟨Bs, 0, none⟩ = some (.slice A sl.length c)) (hBh : W.cell? ⟨Bh, 0, none⟩ = some (.int .u32 (h : Int))) (hc : Ints W n₀ A sl) (h0 : J [] W) :
    CallsIn Fence.wide n Tryz.prog 323 #[.func (.yield l) #[] #[], .pointer (some ⟨Bs, 0, none⟩), .pointer (some ⟨Bh, 0, none⟩)] W fun e W' => (∃ v, e = .returned v) ∧
      ((∃ ys, ys = visits sl h sl.length ∧ J ys W') ∨ (∃ pre, (∃ k, k ≤ sl.length ∧ pre = visits sl h k) ∧ Jx pre W')) := by
  refine callsIn_of_wp Tryz.func323 rfl trivial ?_ rfl
  simp only [Tryz.ntmps323, List.size_toArray, List.length_cons, List.length_nil, Nat.reduceAdd, Nat.reduceSub, Array.replicate_succ, Array.replicate_zero, List.push_toArray, List.append_toArray, List.nil_append, List.cons_append]
  gi_wp2
  gi_loopw [8] (fun i wr => ∃ k : Nat, k ≤ sl.length ∧ i = .int .i64 k ∧ J (visits sl h k) wr ∧ Below n₀ W wr)
    (fun i _ => sl.length - (intOf i).toNat)
  case atStart => exact ⟨0, Nat.zero_le _, rfl, h0, Below.refl _ _⟩
  case round =>
    obtain ⟨k, hk, rfl, hJs, hnx⟩ := hrel
    by_cases hlt : k < sl.length
    · obtain ⟨fn, tmps, assign, body, hy, hR⟩ := hY _ (visit sl h k) wr hJs (by rw [visits_length]; exact hlt)
      obtain ⟨s, hs⟩ : ∃ s, s = (h + k) % sl.length := ⟨_, rfl⟩
      have hsl : s < sl.length := by rw [hs]; exact Nat.mod_lt _ (by omega)
      obtain ⟨ad, rfl, hb, c0⟩ := (hc.keep hnx).at_ hsl
      have b0 := (hnx.cell (p := ⟨Bs, 0, none⟩) hs1).trans hBs
      have b1 := (hnx.cell (p := ⟨Bh, 0, none⟩) hs2).trans hBh
      have e1 : (visit sl h k).1 = s := hs.symm
      have e2 : (visit sl h k).2 = sl[s] := by unfold visit; rw [← hs]; simp [hsl]
      rw [e1, e2] at hy
      clear e1 e2
      have hm : ((h : Int) + (k : Int)) % (sl.length : Int) = (s : Int) := by rw [hs, Int.natCast_emod, Int.natCast_add]
      have HS := Lib.hid hs
      clear hs hY hBs hc
      gi_wp2
      refine hR.mono ?_
      rintro e W3 (⟨rfl, hJ3, hk3⟩ | ⟨rfl, hJx3⟩)
      · gi_wp2
        go_roundw
        case rel => exact ⟨k + 1, by omega, by simp, by rw [visits_succ]; exact hJ3, hnx.trans hk3⟩
        case measure => simp [intOf]; omega
      · gi_wp2
        refine bodyPost_ret (results_none rfl _ _ _) rfl ?_
        exact ⟨⟨_, rfl⟩, .inr ⟨_, ⟨k + 1, by omega, (visits_succ _ _ _).symm⟩, hJx3⟩⟩
    · obtain rfl : k = sl.length := by omega
      gi_wp2
      go_end0
      exact ⟨⟨_, rfl⟩, .inl ⟨_, rfl, hJs⟩⟩

set_option maxRecDepth 100000 in
set_option maxHeartbeats 1000000 in
theorem round_in (n : Nat) (A : Option Addr) (len c : Nat) (h : Int) (w : World) :
    CallsIn Fence.wide n Tryz.prog 299 #[.slice A len c, .int .u32 h] w fun e w' => e = .returned (.func (.func 323) #[] #[.pointer (some ⟨w.heap.size, 0, none⟩), .pointer (some ⟨w.heap.size + 1, 0, none⟩)]) ∧ w' = (w.alloc (.cells #[.slice A len c] 24)).alloc (.cells #[.int .u32 h] 166) := by
  refine callsIn_of_wp Tryz.func299 rfl trivial ?_ rfl
  simp only [Tryz.ntmps299, List.size_toArray, List.length_cons, List.length_nil, Nat.reduceAdd, Nat.reduceSub, Array.replicate_succ, Array.replicate_zero, List.push_toArray, List.append_toArray, List.nil_append, List.cons_append]
  gi_wp2
  go_ret
  exact ⟨rfl, rfl⟩

theorem round_stops (n : Nat) (hn : 1 ≤ n) (Bs Bh n₀ : Nat) (A : Option Addr) (c : Nat) (sl : List Int) (h : Nat) (hh : h < 4294967296) (hl : sl.length ≤ 100000000) (w : World) (hs1 : Bs < n₀) (hs2 : Bh < n₀) (hn₀ : n₀ ≤ w.heap.size)
    (hBs : w.cell? ⟨Bs, 0, none⟩ = some (.slice A sl.length c)) (hBh : w.cell? ⟨Bh, 0, none⟩ = some (.int .u32 (h : Int))) (hc : Ints w n₀ A sl) :
    SeqStopsK Fence.wide n Tryz.prog 323 #[.pointer (some ⟨Bs, 0, none⟩), .pointer (some ⟨Bh, 0, none⟩)] (fun x : Nat × Int => #[Value.int .i64 (x.1 : Int), Value.int .i64 x.2]) (Below n₀) (fun ys => ys = visits sl h sl.length)
      (fun pre => ∃ k, k ≤ sl.length ∧ pre = visits sl h k) sl.length w := fun l J Jx W hW _ _ hY h0 =>
  round1_in n hn l Bs Bh n₀ A c sl h hh hl J Jx hY W hs1 hs2 ((hW.cell (p := ⟨Bs, 0, none⟩) (by show Bs < _; omega)).trans hBs) ((hW.cell (p := ⟨Bh, 0, none⟩) (by show Bh < _; omega)).trans hBh) (hc.keep (hW.mono hn₀)) h0

/-- a slice value that reads as these rows of numbers, below block B -/
def Keys (w : World) (B : Nat) (A : Option Addr) (ks : List (List Int)) : Prop :=
  0 < ks.length → ∃ ad, A = some ad ∧ ad.block < B ∧ ∀ i k, ks[i]? = some k → ∃ a c, k.length ≤ c ∧ w.cell? (ad.add i) = some (.slice a k.length c) ∧ Ints w B a k
theorem Keys.keep {w w' : World} {B : Nat} {A : Option Addr} {l : List (List Int)} (h : Keys w B A l) (hb : Below B w w') : Keys w' B A l := fun h0 => by
  obtain ⟨ad, e, hlt, hc⟩ := h h0
  refine ⟨ad, e, hlt, fun i s hs => ?_⟩
  obtain ⟨a, c, hle, c0, hi⟩ := hc i s hs
  exact ⟨a, c, hle, (hb.cell (by rw [add_block]; exact hlt)).trans c0, hi.keep hb⟩
theorem Keys.q {w w' : World} {B : Nat} {A : Option Addr} {l : List (List Int)} (h : Keys w B A l) (hB : B ≤ w.heap.size) (hb : Q w w') : Keys w' B A l := h.keep (hb.mono hB)
theorem Keys.more {w : World} {B B' : Nat} {A : Option Addr} {l : List (List Int)} (h : Keys w B A l) (hB : B ≤ B') : Keys w B' A l := fun h0 => by
  obtain ⟨ad, e, hlt, hc⟩ := h h0
  refine ⟨ad, e, by omega, fun i s hs => ?_⟩
  obtain ⟨a, c, hle, c0, hi⟩ := hc i s hs
  exact ⟨a, c, hle, c0, hi.more hB⟩
theorem Keys.at_ {w : World} {B : Nat} {A : Option Addr} {l : List (List Int)} (h : Keys w B A l) {k : Nat} (hk : k < l.length) :
    ∃ ad, A = some ad ∧ ad.block < B ∧ ∃ a c, l[k].length ≤ c ∧ w.cell? (ad.add k) = some (.slice a l[k].length c) ∧ Ints w B a l[k] := by
  obtain ⟨ad, e, hlt, hc⟩ := h (by omega)
  exact ⟨ad, e, hlt, hc k l[k] (List.getElem?_eq_getElem hk)⟩

def sameP (ks : List (List Int)) (key : List Int) (x : Int) : Bool := decide (0 ≤ x) && decide (x < ks.length) && eqL (ks[x.toNat]?.getD []) key

set_option maxRecDepth 100000 in
set_option maxHeartbeats 1000000 in
theorem same1_any (Bk Be : Nat) (A E : Option Addr) (c c' : Nat) (ks : List (List Int)) (key : List Int) (x : Int) (w : World) (hk : Keys w w.heap.size A ks) (he : Ints w w.heap.size E key) (hs : ∀ k ∈ ks, k.length ≤ maxLen)
    (hBk : w.cell? ⟨Bk, 0, none⟩ = some (.slice A ks.length c)) (hBe : w.cell? ⟨Be, 0, none⟩ = some (.slice E key.length c')) :
    Calls Tryz.prog 310 #[.int .i64 x, .pointer (some ⟨Bk, 0, none⟩), .pointer (some ⟨Be, 0, none⟩)] w fun e w' => e = .returned (.bool (sameP ks key x)) ∧ ∃ d, w' = w.drewN d := by
  by_cases h1 : 0 ≤ x
  · obtain ⟨k, rfl⟩ := Int.eq_ofNat_of_zero_le h1
    by_cases h2 : k < ks.length
    · obtain ⟨ad, rfl, hb, a, c1, hle, c0, hi⟩ := hk.at_ h2
      have HR : Hid (sameP ks key (k : Int) = eqL ks[k] key) := by simp [sameP, h2, Hid]
      have C : Hid (∀ n, Calls Tryz.prog 311 #[.slice a ks[k].length c1, .slice E key.length c'] (w.drewN n) fun e w' => e = .returned (.bool (eqL ks[k] key)) ∧ ∃ m, w' = (w.drewN n).drewN m) := fun n =>
        equal_any a E _ c1 _ c' ks[k] key (w.drewN n) rfl rfl hi he (hs _ (List.getElem_mem h2))
      clear hk hi he hs
      go_enter Tryz.func310, Tryz.ntmps310
      go_wp2_with fail
      go_quiet (first | (go_at_call 311; exact Calls.quiet_of (C.out _)))
      go_wp2_with fail
      go_ret
      exact ⟨by rw [HR.out]; rfl, _, rfl⟩
    · have HR : Hid (sameP ks key (k : Int) = false) := by simp [sameP, h2, Hid]
      go_enter Tryz.func310, Tryz.ntmps310
      go_wp2_with fail
      go_quiet (fail)
      go_wp2_with fail
      go_ret
      exact ⟨by rw [HR.out]; rfl, _, rfl⟩
  · have HR : Hid (sameP ks key x = false) := by unfold Hid sameP; rw [decide_eq_false h1]; rfl
    have hd : decide (0 ≤ x) = false := decide_eq_false h1
    clear h1
    go_enter Tryz.func310, Tryz.ntmps310
    go_wp2_with fail
    go_quiet (fail)
    go_wp2_with fail
    go_ret
    exact ⟨by rw [HR.out]; rfl, _, rfl⟩

theorem sameAs_any (A E : Option Addr) (n c n' c' : Nat) (w : World) :
    Calls Tryz.prog 266 #[.slice A n c, .slice E n' c'] w fun e w' => e = .returned (.func (.func 310) #[] #[.pointer (some ⟨w.heap.size, 0, none⟩), .pointer (some ⟨w.heap.size + 1, 0, none⟩)]) ∧ w' = (w.alloc (.cells #[.slice A n c] 23)).alloc (.cells #[.slice E n' c'] 24) := by
  go_enter Tryz.func266, Tryz.ntmps266
  go_wp2_with fail
  go_ret
  exact ⟨rfl, rfl⟩
end Go.Proofs.YtnifmfdlocgefaaGreat.Hs

namespace Go.Proofs.YtnifmfdlocgefaaGreat.Hs
open Go.RowKit Go.Shelf Kit

attribute [local go_sem] Oper.semAt_some

def stepOf (p : Int → Bool) (x : Nat × Int) : Option (Int × Int) := if x.2 == 0 then some ((x.1 : Int), -1) else if p (wrap64 (x.2 - 1)) then some ((x.1 : Int), wrap64 (x.2 - 1)) else none
def seekL (p : Int → Bool) : List (Nat × Int) → Int × Int
  | [] => (-1, -1)
  | x :: l => (stepOf p x).getD (seekL p l)
def seekI (p : Int → Bool) (sl : List Int) (h : Nat) : Int × Int := seekL p (visits sl h sl.length)
theorem seekL_none {p : Int → Bool} : ∀ {l : List (Nat × Int)}, (∀ x ∈ l, stepOf p x = none) → seekL p l = (-1, -1)
  | [], _ => rfl
  | x :: l, h => by rw [seekL, h x (List.mem_cons_self ..), Option.getD_none]; exact seekL_none fun y hy => h y (List.mem_cons_of_mem _ hy)
theorem seekL_some {p : Int → Bool} {x : Nat × Int} {r : Int × Int} {m : List (Nat × Int)} (hx : stepOf p x = some r) : ∀ {l : List (Nat × Int)}, (∀ x ∈ l, stepOf p x = none) → seekL p (l ++ x :: m) = r
  | [], _ => by rw [List.nil_append, seekL, hx, Option.getD_some]
  | y :: l, h => by rw [List.cons_append, seekL, h y (List.mem_cons_self ..), Option.getD_none]; exact seekL_some hx fun z hz => h z (List.mem_cons_of_mem _ hz)
theorem visits_split (sl : List Int) (h k m : Nat) : ∃ t, visits sl h (k + m) = visits sl h k ++ t := by
  induction m with
  | zero => exact ⟨[], by simp⟩
  | succ m ih =>
    obtain ⟨t, e⟩ := ih
    exact ⟨t ++ [visit sl h (k + m)], by rw [← Nat.add_assoc, visits_succ, e, List.append_assoc]⟩
theorem seekI_stop {p : Int → Bool} {sl : List Int} {h k : Nat} {ini : List (Nat × Int)} {x : Nat × Int} {r : Int × Int} (hk : k ≤ sl.length) (e : ini ++ [x] = visits sl h k) (hi : ∀ y ∈ ini, stepOf p y = none) (hx : stepOf p x = some r) : seekI p sl h = r := by
  obtain ⟨t, ht⟩ := visits_split sl h k (sl.length - k)
  rw [show k + (sl.length - k) = sl.length by omega, ← e, List.append_assoc] at ht
  unfold seekI
  rw [ht]
  exact seekL_some hx hi

theorem five (w : World) (a b c d e : Value) (t1 t2 t3 t4 t5 : TypeId) :
    Boxed (((((w.alloc (.cells #[a] t1)).alloc (.cells #[b] t2)).alloc (.cells #[c] t3)).alloc (.cells #[d] t4)).alloc (.cells #[e] t5)) w.heap.size t1 a ∧
    Boxed (((((w.alloc (.cells #[a] t1)).alloc (.cells #[b] t2)).alloc (.cells #[c] t3)).alloc (.cells #[d] t4)).alloc (.cells #[e] t5)) (w.heap.size + 1) t2 b ∧
    Boxed (((((w.alloc (.cells #[a] t1)).alloc (.cells #[b] t2)).alloc (.cells #[c] t3)).alloc (.cells #[d] t4)).alloc (.cells #[e] t5)) (w.heap.size + 1 + 1) t3 c ∧
    Boxed (((((w.alloc (.cells #[a] t1)).alloc (.cells #[b] t2)).alloc (.cells #[c] t3)).alloc (.cells #[d] t4)).alloc (.cells #[e] t5)) (w.heap.size + 1 + 1 + 1) t4 d ∧
    Boxed (((((w.alloc (.cells #[a] t1)).alloc (.cells #[b] t2)).alloc (.cells #[c] t3)).alloc (.cells #[d] t4)).alloc (.cells #[e] t5)) (w.heap.size + 1 + 1 + 1 + 1) t5 e ∧
    Q w (((((w.alloc (.cells #[a] t1)).alloc (.cells #[b] t2)).alloc (.cells #[c] t3)).alloc (.cells #[d] t4)).alloc (.cells #[e] t5)) ∧
    (((((w.alloc (.cells #[a] t1)).alloc (.cells #[b] t2)).alloc (.cells #[c] t3)).alloc (.cells #[d] t4)).alloc (.cells #[e] t5)).heap.size = w.heap.size + 5 := by
  have h2 := Boxed.new (w.alloc (.cells #[a] t1)) t2 b
  have h3 := Boxed.new ((w.alloc (.cells #[a] t1)).alloc (.cells #[b] t2)) t3 c
  have h4 := Boxed.new (((w.alloc (.cells #[a] t1)).alloc (.cells #[b] t2)).alloc (.cells #[c] t3)) t4 d
  have h5 := Boxed.new ((((w.alloc (.cells #[a] t1)).alloc (.cells #[b] t2)).alloc (.cells #[c] t3)).alloc (.cells #[d] t4)) t5 e
  simp only [World.size_alloc] at h2 h3 h4 h5
  exact ⟨((((Boxed.new w t1 a).alloc _).alloc _).alloc _).alloc _, (((h2.alloc _).alloc _).alloc _), (h3.alloc _).alloc _, h4.alloc _, h5, (((((Q.refl w).alloc _).alloc _).alloc _).alloc _).alloc _, by simp⟩

theorem two_set {W : World} {B : Nat} {a b u v : Value} (c1 : W.cell? ⟨B + 1, 0, none⟩ = some a) (c2 : W.cell? ⟨B + 1 + 1, 0, none⟩ = some b) :
    ((W.setCell ⟨B + 1, 0, none⟩ u).setCell ⟨B + 1 + 1, 0, none⟩ v).cell? ⟨B + 1, 0, none⟩ = some u ∧ ((W.setCell ⟨B + 1, 0, none⟩ u).setCell ⟨B + 1 + 1, 0, none⟩ v).cell? ⟨B + 1 + 1, 0, none⟩ = some v ∧
    KeepsOthers W ((W.setCell ⟨B + 1, 0, none⟩ u).setCell ⟨B + 1 + 1, 0, none⟩ v) ∧ ∀ {n : Nat} {w : World}, n ≤ B → Below n w W → Below n w ((W.setCell ⟨B + 1, 0, none⟩ u).setCell ⟨B + 1 + 1, 0, none⟩ v) := by
  refine ⟨?_, ?_, (KeepsOthers.setCell _ _ _).trans (KeepsOthers.setCell _ _ _), fun hn h => (h.setCell (p := ⟨B + 1, 0, none⟩) (by show _ ≤ B + 1; omega) _).setCell (p := ⟨B + 1 + 1, 0, none⟩) (by show _ ≤ B + 1 + 1; omega) _⟩
  · exact (World.cell?_setCell_far _ _ _ _ (by simp)).trans (World.cell?_setCell_same' _ _ _ (by rw [c1]; rfl))
  · exact World.cell?_setCell_same' _ _ _ (by rw [World.cell?_setCell_far _ _ _ _ (by simp), c2]; rfl)

theorem below_drewN_ (W : World) (d n : Nat) : Below n W (W.drewN d) := ⟨rfl, rfl, rfl, Nat.le_refl _, fun _ _ => rfl⟩

/-- what the loop's own cells hold -/
def SeekI (w : World) (fv : Value) (p : Int → Bool) (pre : List (Nat × Int)) (W : World) : Prop :=
  (∀ x ∈ pre, stepOf p x = none) ∧ W.cell? ⟨w.heap.size, 0, none⟩ = some fv ∧ (W.cell? ⟨w.heap.size + 1, 0, none⟩ = some (.int .i64 0) ∧ W.frozen? ⟨w.heap.size + 1, 0, none⟩ = false) ∧ (W.cell? ⟨w.heap.size + 1 + 1, 0, none⟩ = some (.int .i64 0) ∧ W.frozen? ⟨w.heap.size + 1 + 1, 0, none⟩ = false)
theorem seekI_own (w : World) (fv : Value) (p : Int → Bool) : Own (SeekI w fv p) := fun _ _ _ _ hs hg hr =>
  ⟨hs.1, cell_kept hs.2.1 hg hr, ⟨cell_kept hs.2.2.1.1 hg hr, (frozen_kept hs.2.2.1.1 hg hr).trans hs.2.2.1.2⟩, cell_kept hs.2.2.2.1 hg hr, (frozen_kept hs.2.2.2.1 hg hr).trans hs.2.2.2.2⟩
/-- .. when a round has left -/
def SeekX (w : World) (p : Int → Bool) (c : Code) (pre : List (Nat × Int)) (W : World) : Prop :=
  c = .ret ∧ ∃ ini x r, ini ++ [x] = pre ∧ (∀ y ∈ ini, stepOf p y = none) ∧ stepOf p x = some r ∧ W.cell? ⟨w.heap.size + 1, 0, none⟩ = some (.int .i64 r.1) ∧ W.cell? ⟨w.heap.size + 1 + 1, 0, none⟩ = some (.int .i64 r.2)
theorem seekX_own (w : World) (p : Int → Bool) (c : Code) : Own (SeekX w p c) := fun _ _ _ _ hs hg hr => by
  obtain ⟨hc, ini, x, r, e1, e2, e3, e4, e5⟩ := hs
  exact ⟨hc, ini, x, r, e1, e2, e3, cell_kept e4 hg hr, cell_kept e5 hg hr⟩
theorem snoc_none {p : Int → Bool} {pre : List (Nat × Int)} {x : Nat × Int} (h : ∀ y ∈ pre, stepOf p y = none) (hx : stepOf p x = none) : ∀ y ∈ pre ++ [x], stepOf p y = none := fun y hy =>
  (List.mem_append.1 hy).elim (h y) fun e => by rw [List.mem_singleton.1 e]; exact hx

set_option maxRecDepth 100000 in
set_option maxHeartbeats 2000000 in
theorem seek_same (A : Option Addr) (n c : Nat) (sl : List Int) (h : Nat) (p : Int → Bool) (Bk Be : Nat) (w : World) (hn : n = sl.length) (hr : Ints w w.heap.size A sl) (hh : h < 4294967296) (hl : sl.length ≤ 100000000)
    (hS : ∀ x W, Q w W → Calls Tryz.prog 310 #[.int .i64 x, .pointer (some ⟨Bk, 0, none⟩), .pointer (some ⟨Be, 0, none⟩)] W fun e W' => e = .returned (.bool (p x)) ∧ ∃ d, W' = W.drewN d) :
    Calls Tryz.prog 231 #[.slice A n c, .int .u32 (h : Int), .func (.func 310) #[] #[.pointer (some ⟨Bk, 0, none⟩), .pointer (some ⟨Be, 0, none⟩)]] w fun e w' => e = .returned (.tuple #[.int .i64 (seekI p sl h).1, .int .i64 (seekI p sl h).2]) ∧ Q w w' := by
  subst hn
  refine (callsIn_wide (n := 5)).1 ?_
  refine callsIn_of_wp_marks Tryz.func231 rfl trivial ?_ rfl
  simp only [Tryz.ntmps231, List.size_toArray, List.length_cons, List.length_nil, Nat.reduceAdd, Nat.reduceSub, Array.replicate_succ, Array.replicate_zero, List.push_toArray, List.append_toArray, List.nil_append, List.cons_append]
  gi_wp2_with (refine ⟨trivial, ?_⟩; gi_at_call 299; refine (round_in _ _ _ _ _ _).mono ?_; rintro e w' ⟨rfl, rfl⟩)
  have h5 := five w (.func (.func 310) #[] #[.pointer (some ⟨Bk, 0, none⟩), .pointer (some ⟨Be, 0, none⟩)]) (.int .i64 0) (.int .i64 0) (.slice A sl.length c) (.int .u32 (h : Int)) 192 3 3 24 166
  revert h5
  generalize (((((w.alloc (.cells #[Value.func (.func 310) #[] #[.pointer (some ⟨Bk, 0, none⟩), .pointer (some ⟨Be, 0, none⟩)]] 192)).alloc (.cells #[Value.int .i64 0] 3)).alloc (.cells #[Value.int .i64 0] 3)).alloc (.cells #[Value.slice A sl.length c] 24)).alloc (.cells #[Value.int .u32 (h : Int)] 166)) = W0
  rintro ⟨bF, b1, b2, bL, bH, q0, hz⟩
  refine wpIn_rangeFunc_ownG (w := W0) rfl (by omega) (gf := 323) (lb := #[.pointer (some ⟨w.heap.size + 1 + 1 + 1, 0, none⟩), .pointer (some ⟨w.heap.size + 1 + 1 + 1 + 1, 0, none⟩)]) rfl trivial (enters_of Tryz.func323 (by kernel_rfl) rfl)
    (round_stops 4 (by omega) (w.heap.size + 1 + 1 + 1) (w.heap.size + 1 + 1 + 1 + 1) (w.heap.size + 5) A c sl h hh hl W0 (by omega) (by omega) (by omega) bL.cell bH.cell ((hr.q (Nat.le_refl _) q0).more (by omega))) belowK_t (belowK_b (by omega)) (Below.refl _ _) (fun _ => rfl)
    (fun pre W => SeekI w (.func (.func 310) #[] #[.pointer (some ⟨Bk, 0, none⟩), .pointer (some ⟨Be, 0, none⟩)]) p pre W ∧ Below w.heap.size w W)
    (fun c pre W => SeekX w p c pre W ∧ Below w.heap.size w W)
    (OwnFrom.and (Own.from (seekI_own w _ p) _) (ownFrom_below (Nat.le_refl _) (by omega)))
    (fun c => OwnFrom.and (Own.from (seekX_own w p c) _) (ownFrom_below (Nat.le_refl _) (by omega)))
    ⟨⟨by simp, bF.cell, ⟨b1.cell, b1.frozen⟩, b2.cell, b2.frozen⟩, q0⟩
    (fun x => { tmps := #[.slice A sl.length c, .int .u32 (h : Int), .func (.func 310) #[] #[.pointer (some ⟨Bk, 0, none⟩), .pointer (some ⟨Be, 0, none⟩)], undef, undef, .pointer (some ⟨w.heap.size, 0, none⟩), .pointer (some ⟨w.heap.size + 1, 0, none⟩), .pointer (some ⟨w.heap.size + 1 + 1, 0, none⟩), .int .i64 (x.1 : Int), .int .i64 x.2, .slice A sl.length c, .int .u32 (h : Int),
      .func (.func 323) #[] #[.pointer (some ⟨w.heap.size + 1 + 1 + 1, 0, none⟩), .pointer (some ⟨w.heap.size + 1 + 1 + 1 + 1, 0, none⟩)], .int .i64 (x.1 : Int), .int .i64 x.2, undef, undef, undef, undef, undef, undef, undef, undef, undef, undef], defers := [] }) ?assign ?body ?done ?stop
  case assign =>
    intro l x W K hK
    gi_wp2
    exact hK
  case body =>
    rintro l pre x W ⟨⟨hp, cF, ⟨c1, f1⟩, c2, f2⟩, hB⟩ _
    clear bF b1 b2 bL bH
    cases hx : (x.2 == 0)
    · cases hpx : p (wrap64 (x.2 - 1))
      · have HT : Hid (stepOf p x = none) := by simp [stepOf, hx, hpx, Hid]
        gi_wp2_with (refine ⟨trivial, ?_⟩; gi_at_call 310; refine (CallsIn.inRound l (callsIn_wide.2 (hS _ _ hB))).mono ?_; rintro e W' ⟨rfl, d, rfl⟩)
        exact ⟨⟨Nat.le_refl _, fun _ _ _ h _ => h⟩, below_drewN_ W d _, ⟨snoc_none hp HT.out, cF, ⟨c1, f1⟩, c2, f2⟩, Q.drewN hB d⟩
      · have HT : Hid (stepOf p x = some ((x.1 : Int), wrap64 (x.2 - 1))) := by simp [stepOf, hx, hpx, Hid]
        gi_wp2_with (refine ⟨trivial, ?_⟩; gi_at_call 310; refine (CallsIn.inRound l (callsIn_wide.2 (hS _ _ hB))).mono ?_; rintro e W' ⟨rfl, d, rfl⟩)
        obtain ⟨y1, y2, ko, hb⟩ := two_set (W := W.drewN d) (u := .int .i64 (x.1 : Int)) (v := .int .i64 (wrap64 (x.2 - 1))) c1 c2
        have k0 : KeepsOthers W (W.drewN d) := ⟨Nat.le_refl _, fun _ _ h _ => h⟩
        exact ⟨(k0.trans ko).from _, ⟨rfl, pre, x, _, rfl, hp, HT.out, y1, y2⟩, hb (Nat.le_refl _) (Q.drewN hB d)⟩
    · have HT : Hid (stepOf p x = some ((x.1 : Int), -1)) := by simp [stepOf, hx, Hid]
      gi_wp2
      obtain ⟨y1, y2, ko, hb⟩ := two_set (W := W) (u := .int .i64 (x.1 : Int)) (v := .int .i64 (-1)) c1 c2
      exact ⟨ko.from _, ⟨rfl, pre, x, _, rfl, hp, HT.out, y1, y2⟩, hb (Nat.le_refl _) hB⟩
  case done =>
    rintro D ys W hD rfl ⟨⟨hne, cF, ⟨c1, f1⟩, c2, f2⟩, hB⟩ hK
    gi_wp2
    obtain ⟨y1, y2, ko, hb⟩ := two_set (W := W) (u := .int .i64 (-1)) (v := .int .i64 (-1)) c1 c2
    have hK' := ko.same D _ hK rfl
    refine ⟨by simp, .inl ⟨_, _, rfl, run_takeDeferred hK', ?_⟩⟩
    have c1' := cell_kept y1 (grownBy_putObj' _ D (.deferred none)) (fun r e => by cases e; exact ⟨_, hK', rfl⟩)
    have c2' := cell_kept y2 (grownBy_putObj' _ D (.deferred none)) (fun r e => by cases e; exact ⟨_, hK', rfl⟩)
    have hq : seekI p sl h = (-1, -1) := seekL_none hne
    refine ⟨.tuple #[.int .i64 (-1), .int .i64 (-1)], ?_, by rw [hq], (hb (Nat.le_refl _) hB).trans (belowK_b (w := w) (Nat.le_refl _) _ D _ _ (by omega) hK' rfl rfl)⟩
    simp [results, Tryz.f231, go_sem, c1', c2']
  case stop =>
    rintro D c pre W hD ⟨k, hk, rfl⟩ ⟨⟨rfl, ini, x, r, e1, e2, e3, c1, c2⟩, hB⟩ hK
    gi_wp2
    refine ⟨by simp, .inl ⟨_, _, rfl, run_takeDeferred hK, ?_⟩⟩
    have c1' := cell_kept c1 (grownBy_putObj' _ D (.deferred none)) (fun r e => by cases e; exact ⟨_, hK, rfl⟩)
    have c2' := cell_kept c2 (grownBy_putObj' _ D (.deferred none)) (fun r e => by cases e; exact ⟨_, hK, rfl⟩)
    have hq := seekI_stop hk e1 e2 e3
    refine ⟨.tuple #[.int .i64 r.1, .int .i64 r.2], ?_, by rw [hq], hB.trans (belowK_b (w := w) (Nat.le_refl _) W D _ _ (by omega) hK rfl rfl)⟩
    simp [results, Tryz.f231, go_sem, c1', c2']

end Go.Proofs.YtnifmfdlocgefaaGreat.Hs

namespace Go.Proofs.YtnifmfdlocgefaaGreat.Hs
open Go.RowKit Kit

theorem least_of {P : Nat → Prop} [DecidablePred P] : ∀ (N : Nat), (∃ n, n < N ∧ P n) → ∃ n, n < N ∧ P n ∧ ∀ m, m < n → ¬ P m
  | 0, ⟨n, h, _⟩ => absurd h (Nat.not_lt_zero n)
  | N + 1, ⟨n, h, hp⟩ => by
    by_cases hx : ∃ n, n < N ∧ P n
    · obtain ⟨m, h1, h2, h3⟩ := least_of N hx
      exact ⟨m, by omega, h2, h3⟩
    · refine ⟨n, h, hp, fun m hm hq => hx ⟨m, by omega, hq⟩⟩

theorem reach (N h j : Nat) (hj : j < N) : ∃ J, J < N ∧ (h + J) % N = j := by
  have e := Nat.div_add_mod h N
  have hr : h % N < N := Nat.mod_lt _ (by omega)
  by_cases hle : h % N ≤ j
  · refine ⟨j - h % N, by omega, ?_⟩
    rw [show h + (j - h % N) = N * (h / N) + j by omega, Nat.mul_add_mod, Nat.mod_eq_of_lt hj]
  · refine ⟨j + N - h % N, by omega, ?_⟩
    rw [show h + (j + N - h % N) = N * (h / N + 1) + j by rw [Nat.mul_add]; omega, Nat.mul_add_mod, Nat.mod_eq_of_lt hj]

def hashN (l : List Int) : Nat := (hashI l).toNat
theorem mixN_range {h : Int} (h0 : 0 ≤ h ∧ h < 4294967296) (m : Int) (k : Nat) : 0 ≤ mixN h m k ∧ mixN h m k < 4294967296 := by
  induction k generalizing h m with
  | zero => exact h0
  | succ k ih => rw [mixN]; exact ih (by unfold mixB; omega) _
theorem hashF_range {h : Int} (h0 : 0 ≤ h ∧ h < 4294967296) (l : List Int) : 0 ≤ hashF h l ∧ hashF h l < 4294967296 := by
  induction l generalizing h with
  | nil => exact h0
  | cons x l ih => rw [hashF]; exact ih (mixN_range h0 _ _)
theorem hashN_eq (l : List Int) : hashI l = (hashN l : Int) := by
  have := hashF_range (h := 2166136261) (by omega) l
  unfold hashN hashI; omega
theorem hashN_lt (l : List Int) : hashN l < 4294967296 := by
  have := hashF_range (h := 2166136261) (by omega) l
  unfold hashN hashI; omega

abbrev nv : Int → Bool := fun _ => false
theorem visits_get (sl : List Int) (h k : Nat) (y : Nat × Int) (hy : y ∈ visits sl h k) : ∃ i, i < k ∧ y = visit sl h i := by
  unfold visits at hy
  rw [List.mem_map] at hy
  obtain ⟨i, hi, rfl⟩ := hy
  exact ⟨i, by simpa using hi, rfl⟩
theorem seekI_at {p : Int → Bool} {sl : List Int} {h J : Nat} {r : Int × Int} (hJ : J < sl.length) (hb : ∀ i, i < J → stepOf p (visit sl h i) = none) (hr : stepOf p (visit sl h J) = some r) : seekI p sl h = r :=
  seekI_stop (k := J + 1) hJ (visits_succ sl h J).symm (fun y hy => by obtain ⟨i, hi, rfl⟩ := visits_get sl h J y hy; exact hb i hi) hr
theorem seekI_free {p : Int → Bool} {sl : List Int} {h J : Nat} (hJ : J < sl.length) (hb : ∀ i, i < J → stepOf p (visit sl h i) = none) (hz : sl[(h + J) % sl.length]? = some 0) : seekI p sl h = ((((h + J) % sl.length : Nat) : Int), -1) :=
  seekI_at hJ hb (by simp [stepOf, visit, hz])

/-- how many slots are taken -/
def nz (sl : List Int) : Nat := sl.countP (· != 0)
theorem nz_set (sl : List Int) (s : Nat) (v : Int) : nz (sl.set s v) ≤ nz sl + 1 := by
  induction sl generalizing s with
  | nil => simp [nz]
  | cons x l ih =>
    cases s with
    | zero => simp only [List.set_cons_zero, nz, List.countP_cons]; split <;> split <;> omega
    | succ s => have := ih s; simp only [List.set_cons_succ, nz, List.countP_cons] at this ⊢; omega
theorem nz_free {sl : List Int} (h : nz sl < sl.length) : ∃ j, j < sl.length ∧ sl[j]? = some 0 := by
  induction sl with
  | nil => simp at h
  | cons x l ih =>
    by_cases hx : x = 0
    · subst hx; exact ⟨0, by simp, rfl⟩
    · have : nz l < l.length := by
        simp only [nz, List.countP_cons, List.length_cons] at h ⊢
        rw [if_pos (by simpa using hx)] at h
        omega
      obtain ⟨j, h1, h2⟩ := ih this
      exact ⟨j + 1, by simp; omega, by simpa using h2⟩
theorem nz_replicate (n : Nat) : nz (List.replicate n 0) = 0 := by simp [nz, List.countP_replicate]

/-- a free slot is found: the first one on the way -/
theorem free_way {sl : List Int} (h : Nat) (hf : nz sl < sl.length) : ∃ J, J < sl.length ∧ sl[(h + J) % sl.length]? = some 0 ∧ (∀ i, i < J → sl[(h + i) % sl.length]? ≠ some 0) ∧ seekI nv sl h = ((((h + J) % sl.length : Nat) : Int), -1) := by
  obtain ⟨j, hj, hz⟩ := nz_free hf
  obtain ⟨J0, hJ0, e0⟩ := reach sl.length h j hj
  obtain ⟨J, hJ, hz', hb⟩ := least_of (P := fun J => sl[(h + J) % sl.length]? = some 0) sl.length ⟨J0, hJ0, by rw [e0]; exact hz⟩
  refine ⟨J, hJ, hz', hb, seekI_free hJ (fun i hi => ?_) hz'⟩
  have hlt : (h + i) % sl.length < sl.length := Nat.mod_lt _ (by omega)
  have := hb i hi
  rw [List.getElem?_eq_getElem hlt] at this
  simp only [stepOf, visit, List.getElem?_eq_getElem hlt, Option.getD_some]
  rw [if_neg (by simpa using this)]
  rfl

def slotOf (sl : List Int) (key : List Int) : Nat := (seekI nv sl (hashN key)).1.toNat
def putSlot (sl : List Int) (key : List Int) (i : Nat) : List Int := sl.set (slotOf sl key) ((i : Int) + 1)
def layF : List (List Int) → Nat → List Int → List Int
  | [], _, sl => sl
  | k :: ks, i, sl => layF ks (i + 1) (putSlot sl k i)
def layI (ks : List (List Int)) : List Int := layF ks 0 (List.replicate (sizeN ks.length) 0)
theorem layF_at (ks : List (List Int)) (i : Nat) (sl : List Int) (h : i < ks.length) : layF (ks.drop i) i sl = layF (ks.drop (i + 1)) (i + 1) (putSlot sl ks[i] i) := by
  rw [List.drop_eq_getElem_cons h]; rfl
theorem layF_end (ks : List (List Int)) (i : Nat) (sl : List Int) (h : ks.length ≤ i) : layF (ks.drop i) i sl = sl := by
  rw [List.drop_eq_nil_of_le h]; rfl
theorem putSlot_length (sl : List Int) (key : List Int) (i : Nat) : (putSlot sl key i).length = sl.length := by simp [putSlot]
theorem layF_length (ks : List (List Int)) (i : Nat) (sl : List Int) : (layF ks i sl).length = sl.length := by
  induction ks generalizing i sl with
  | nil => rfl
  | cons k ks ih => rw [layF, ih, putSlot_length]
theorem layI_length (ks : List (List Int)) : (layI ks).length = sizeN ks.length := by rw [layI, layF_length, List.length_replicate]
theorem sizeG_spec (n : Nat) : ∀ (f p : Nat), n - p ≤ f → 0 < p → ∃ k, sizeG n p = 8 * (p * 2 ^ k) ∧ n ≤ 6 * (p * 2 ^ k) ∧ (k = 0 ∨ 3 * (p * 2 ^ k) < n)
  | f, p, hf, hp => by
    by_cases h : 6 * p < n
    · rw [sizeG_lt h hp]
      cases f with
      | zero => omega
      | succ f =>
        obtain ⟨k, e1, e2, e3⟩ := sizeG_spec n f (2 * p) (by omega) (by omega)
        have e : p * 2 ^ (k + 1) = 2 * p * 2 ^ k := by rw [Nat.pow_succ, Nat.mul_comm 2 p, Nat.mul_assoc, Nat.mul_comm (2 ^ k)]
        refine ⟨k + 1, by rw [e, e1], by rw [e]; exact e2, .inr ?_⟩
        rw [e]
        rcases e3 with rfl | e3
        · simp; omega
        · exact e3
    · exact ⟨0, by rw [sizeG_ge (by omega)]; simp, by simp; omega, .inl rfl⟩
theorem sizeN_spec (n : Nat) : ∃ k, sizeN n = 8 * 2 ^ k ∧ n ≤ 6 * 2 ^ k ∧ (k = 0 ∨ 3 * 2 ^ k < n) := by
  have := sizeG_spec n _ 1 (Nat.le_refl _) (by omega)
  simpa [sizeN] using this
theorem pow_pos2 (k : Nat) : 0 < 2 ^ k := Nat.pow_pos (by omega)
theorem sizeN_gt (n : Nat) : n < sizeN n := by
  obtain ⟨k, e, h, _⟩ := sizeN_spec n
  have := pow_pos2 k
  omega
theorem sizeN_le (n : Nat) : sizeN n ≤ 8 * (n + 1) := by
  obtain ⟨k, e, _, h⟩ := sizeN_spec n
  rcases h with rfl | h
  · simp at e; omega
  · omega
end Go.Proofs.YtnifmfdlocgefaaGreat.Hs

namespace Go.Proofs.YtnifmfdlocgefaaGreat.Hs
open Go.RowKit Kit

/-- block g holds these numbers, from its head on, and may be written -/
def OwnI (w : World) (g : Nat) (sl : List Int) : Prop := g < w.heap.size ∧ ∀ i x, sl[i]? = some x → w.cell? ⟨g, i, none⟩ = some (.int .i64 x) ∧ w.frozen? ⟨g, i, none⟩ = false
theorem add_zero_head (g j : Nat) : (⟨g, 0, none⟩ : Addr).add j = ⟨g, j, none⟩ := by
  unfold Addr.add
  by_cases h : j = 0 <;> simp [h]
theorem OwnI.ints {w : World} {g : Nat} {sl : List Int} (h : OwnI w g sl) : Ints w w.heap.size (some ⟨g, 0, none⟩) sl := fun _ => ⟨_, rfl, h.1, fun i x hx => by rw [add_zero_head]; exact (h.2 i x hx).1⟩
theorem OwnI.q {w w' : World} {g : Nat} {sl : List Int} (h : OwnI w g sl) (q : Q w w') : OwnI w' g sl :=
  ⟨Nat.lt_of_lt_of_le h.1 q.size, fun i x hx => ⟨(q.cell (p := ⟨g, i, none⟩) h.1).trans (h.2 i x hx).1, (q.frozen (p := ⟨g, i, none⟩) h.1).trans (h.2 i x hx).2⟩⟩
theorem OwnI.at_ {w : World} {g : Nat} {sl : List Int} (h : OwnI w g sl) {s : Nat} (hs : s < sl.length) : w.cell? ⟨g, s, none⟩ = some (.int .i64 sl[s]) ∧ w.frozen? ⟨g, s, none⟩ = false := h.2 s _ (List.getElem?_eq_getElem hs)
theorem OwnI.set {w : World} {g : Nat} {sl : List Int} (h : OwnI w g sl) {s : Nat} (hs : s < sl.length) (v : Int) : OwnI (w.setCell ⟨g, s, none⟩ (.int .i64 v)) g (sl.set s v) := by
  refine ⟨by simp [World.setCell]; exact h.1, fun i x hx => ?_⟩
  rw [World.frozen?_setCell]
  by_cases hi : s = i
  · subst hi
    rw [List.getElem?_set_self hs] at hx
    obtain rfl : v = x := by simpa using hx
    exact ⟨World.cell?_setCell_same' _ _ _ (by rw [(h.at_ hs).1]; rfl), (h.at_ hs).2⟩
  · rw [List.getElem?_set_ne hi] at hx
    have := h.2 i x hx
    exact ⟨(by have e := World.cell?_setCell_other (w := w) (a := ⟨g, s, none⟩) (b := ⟨g, i, none⟩) (v := .int .i64 v) (by intro e; injection e with _ e; exact hi e); exact e.trans this.1), this.2⟩
theorem OwnI.made (w : World) (n : Nat) (t : TypeId) : OwnI (w.alloc (.cells (madeCells #[.int .i64 0] n) t)) w.heap.size (List.replicate n 0) := by
  refine ⟨by simp, fun i x hx => ?_⟩
  have hi : i < n := by have := (List.getElem?_eq_some_iff.1 hx).1; simpa using this
  have e : x = 0 := by rw [List.getElem?_replicate, if_pos hi] at hx; simpa using hx.symm
  subst e
  refine ⟨?_, World.frozen?_alloc_at _ _ _ _ rfl⟩
  rw [cell_of_row _ _ _ _ _ _ (heap_alloc_new w _)]
  simp [madeCells, hi, Nat.mod_one]

theorem intInfo : (Tryz.prog.info? 3).map (fun i => (i.zero, i.size, i.bytes)) = some (some (.int .i64 0), 1, 8) := by kernel_rfl
theorem make_ints (n : Nat) (hn : n ≤ 100000000) (u : World) : (Instr.makeSlice 24 (.int .i64 (n : Int)) (.int .i64 (n : Int))).run Tryz.prog u = .ok (.slice (some ⟨u.heap.size, 0, none⟩) n n) (u.alloc (.cells (madeCells #[.int .i64 0] n) 3)) := by
  obtain ⟨i0, hi, hz0, hz1, hz2⟩ := info_parts intInfo
  have h := run_make (P := Tryz.prog) u 24 3 i0 _ Tryz.underlying24 hi hz0 .i64 .i64 (n : Int) (n : Int) (by omega) (by omega) (by rw [hz2]; omega) (by omega)
  rw [hz1, Nat.mul_one] at h
  exact h

theorem hashN_any (A : Option Addr) (n c : Nat) (l : List Int) (w : World) (hn : n = l.length) (hr : Ints w w.heap.size A l) (hl : l.length ≤ maxLen) :
    Calls Tryz.prog 232 #[.slice A n c] w fun e w' => e = .returned (.int .u32 (hashN l : Int)) ∧ w = w' :=
  (hash_any A n c l w hn hr hl).mono fun _ _ ⟨he, hw⟩ => ⟨by rw [he, hashN_eq], hw⟩
theorem refHashN_any (A : Option Addr) (n c : Nat) (l : List Int) (w : World) (hn : n = l.length) (hr : Ints w w.heap.size A l) (hl : l.length ≤ maxLen) :
    Calls Tryz.prog 114 #[.slice A n c] w fun e w' => e = .returned (.int .u32 (hashN l : Int)) ∧ w = w' :=
  (refHash_any A n c l w hn hr hl).mono fun _ _ ⟨he, hw⟩ => ⟨by rw [he, hashN_eq], hw⟩

def LayPost (ks : List (List Int)) (w : World) (e : Ending) (w' : World) : Prop :=
  ∃ g, e = .returned (.slice (some ⟨g, 0, none⟩) (sizeN ks.length) (sizeN ks.length)) ∧ w.heap.size ≤ g ∧ OwnI w' g (layI ks) ∧ Q w w'

theorem step_mod (h j N : Nat) (hN : 0 < N) : (h + (j + 1)) % N = if (h + j) % N + 1 = N then 0 else (h + j) % N + 1 := by
  have e := Nat.div_add_mod (h + j) N
  have hr : (h + j) % N < N := Nat.mod_lt _ hN
  split
  · rename_i h1
    rw [show h + (j + 1) = N * ((h + j) / N + 1) + 0 by rw [Nat.mul_add]; omega, Nat.mul_add_mod]; simp
  · rename_i h1
    rw [show h + (j + 1) = N * ((h + j) / N) + ((h + j) % N + 1) by omega, Nat.mul_add_mod, Nat.mod_eq_of_lt (by omega)]

theorem dist_mod {h j J N : Nat} (hj : j ≤ J) (hJ : J < N) : ((h + J) % N + N - (h + j) % N) % N = J - j := by
  have hr : (h + j) % N < N := Nat.mod_lt _ (by omega)
  have e : (h + J) % N = ((h + j) % N + (J - j)) % N := by
    rw [show h + J = (h + j) + (J - j) by omega, Nat.add_mod, Nat.mod_eq_of_lt (show J - j < N by omega)]
  by_cases hx : (h + j) % N + (J - j) < N
  · rw [e, Nat.mod_eq_of_lt hx, show (h + j) % N + (J - j) + N - (h + j) % N = (J - j) + N by omega, Nat.add_mod_right, Nat.mod_eq_of_lt (by omega)]
  · have e2 : ((h + j) % N + (J - j)) % N = (h + j) % N + (J - j) - N := by
      rw [Nat.mod_eq_sub_mod (by omega), Nat.mod_eq_of_lt (by omega)]
    rw [e, e2, show (h + j) % N + (J - j) - N + N - (h + j) % N = J - j by omega, Nat.mod_eq_of_lt (by omega)]

set_option maxRecDepth 100000 in
set_option maxHeartbeats 1000000 in
theorem refLay_any (A : Option Addr) (n c : Nat) (ks : List (List Int)) (w : World) (hn : n = ks.length) (hk : Keys w w.heap.size A ks) (hl : ks.length ≤ 10000) (hs : ∀ k ∈ ks, k.length ≤ maxLen) :
    Calls Tryz.prog 54 #[.slice A n c] w (LayPost ks w) := by
  subst hn
  have hN := sizeN_le ks.length
  have hG := sizeN_gt ks.length
  have hmk := make_ints (sizeN ks.length) (by omega)
  have HM := Lib.hid (OwnI.made w (sizeN ks.length) 3)
  obtain ⟨N, hNe⟩ : ∃ N, sizeN ks.length = N := ⟨_, rfl⟩
  have HI : Hid (layI ks = layF ks 0 (List.replicate N 0)) := by unfold Hid; rw [layI, hNe]
  unfold LayPost
  rw [hNe] at hmk HM hN hG ⊢
  have HE := Lib.hid hNe
  clear hNe
  go_enter Tryz.func54, Tryz.ntmps54
  go_wp2_with fail
  refine (refSize_any _ _ (by omega)).mono ?_
  rintro e w1 ⟨rfl, rfl⟩
  rw [HE.out]
  go_wp2_with fail
  clear hmk
  go_loopw [4] (fun i wr => ∃ (k : Nat) (sl : List Int), k ≤ ks.length ∧ i = .int .i64 k ∧ Hid (sl.length = N) ∧ Hid (nz sl ≤ k) ∧ Hid (layI ks = layF (ks.drop k) k sl) ∧ Hid (OwnI wr w.heap.size sl) ∧ Q w wr) (fun i _ => ks.length - (intOf i).toNat)
  case atStart => exact ⟨0, _, Nat.zero_le _, rfl, Lib.hid (by simp), Lib.hid (by rw [nz_replicate]; exact Nat.le_refl _), HI, HM, (Q.refl _).alloc _⟩
  case round =>
    obtain ⟨k, sl, hkl, rfl, HL, HZ, HF, HO, qr⟩ := hrel
    by_cases hlt : k < ks.length
    · obtain ⟨ad, rfl, hb, a, c1, hle, c0, hi⟩ := (hk.q (Nat.le_refl _) qr).at_ hlt
      have Hi := Lib.hid (hi.more qr.size)
      have Hs := Lib.hid (hs _ (List.getElem_mem hlt))
      have HS := Lib.hid (layF_at ks k sl hlt)
      obtain ⟨J, hJ, hz, hbf, hsk⟩ := free_way (hashN ks[k]) (show nz sl < sl.length by have := HZ.out; have := HL.out; omega)
      rw [HL.out] at hz hbf hsk hJ
      have HP : Hid (putSlot sl ks[k] k = sl.set ((hashN ks[k] + J) % N) ((k : Int) + 1)) := by unfold Hid putSlot slotOf; rw [hsk]; rfl
      obtain ⟨h, hh⟩ : ∃ h, hashN ks[k] = h := ⟨_, rfl⟩
      have hh2 := hashN_lt ks[k]
      rw [hh] at hz hbf HP hh2
      have Hh := Lib.hid hh
      have Hz := Lib.hid hz
      have Hbf := Lib.hid hbf
      clear hi hz hbf hsk hh hk hle
      go_wp2_with fail
      refine (refHashN_any _ _ _ _ _ rfl Hi.out Hs.out).mono ?_
      rintro e w2 ⟨rfl, rfl⟩
      rw [Hh.out]
      have hN0 : 0 < N := by omega
      go_wp2_with fail
      go_loopw [5] (fun at' w' => ∃ (j s : Nat), j ≤ J ∧ at' = .int .i64 s ∧ s < N ∧ Hid (s = (h + j) % N) ∧ w' = wr) (fun at' _ => ((h + J) % N + N - (intOf at').toNat) % N)
      case atStart => exact ⟨0, h % N, Nat.zero_le _, by rw [Int.natCast_emod], Nat.mod_lt _ hN0, Lib.hid rfl, rfl⟩
      case round =>
        obtain ⟨j, s, hj, rfl, hsN, Hs2, rfl⟩ := hrel
        have hsl : s < sl.length := by have := HL.out; omega
        have hc3 := (HO.out.at_ hsl).1
        have hf3 := (HO.out.at_ hsl).2
        by_cases hjJ : j < J
        · have hnz : (sl[s] != 0) = true := by
            have := Hbf.out j hjJ
            rw [← Hs2.out, List.getElem?_eq_getElem hsl] at this
            simpa using this
          have Hst := Lib.hid (step_mod h j N hN0)
          have Hd1 := Lib.hid (dist_mod (h := h) hj hJ)
          have Hd2 := Lib.hid (dist_mod (h := h) (show j + 1 ≤ J by omega) hJ)
          by_cases hw : s + 1 = N
          · have hw' : (s : Int) + 1 = (N : Int) := by omega
            have hw2 : ((s : Int) + 1 == (N : Int)) = true := by simpa using hw'
            have Hst' : Hid (0 = (h + (j + 1)) % N) := by unfold Hid; rw [Hst.out, ← Hs2.out, if_pos hw]
            have Hw := Lib.hid hw
            clear hw hw'
            go_wp2_with fail
            go_roundw
            case rel => exact ⟨j + 1, 0, by omega, rfl, hN0, Hst', trivial⟩
            case measure =>
              have e1 := Hd1.out; have e2 := Hd2.out
              rw [← Hs2.out] at e1; rw [← Hst'.out] at e2
              show ((h + J) % N + N - 0) % N < ((h + J) % N + N - s) % N
              omega
          · have hw2 : ((s : Int) + 1 == (N : Int)) = false := by simp; omega
            have Hst' : Hid (s + 1 = (h + (j + 1)) % N) := by unfold Hid; rw [Hst.out, ← Hs2.out, if_neg hw]
            go_wp2_with fail
            go_roundw
            case rel => exact ⟨j + 1, s + 1, by omega, by go_num, by omega, Hst', trivial⟩
            case measure =>
              have e1 := Hd1.out; have e2 := Hd2.out
              rw [← Hs2.out] at e1; rw [← Hst'.out] at e2
              have e3 : (intOf (Value.int .i64 ((s : Int) + 1))).toNat = s + 1 := by simp [intOf]
              rw [e3]
              show ((h + J) % N + N - (s + 1)) % N < ((h + J) % N + N - s) % N
              omega
        · obtain rfl : j = J := by omega
          have hnz : (sl[s] != 0) = false := by
            have := Hz.out
            rw [← Hs2.out, List.getElem?_eq_getElem hsl] at this
            simpa using this
          have HP' : Hid (putSlot sl ks[k] k = sl.set s ((k : Int) + 1)) := by unfold Hid; rw [HP.out, ← Hs2.out]
          have Hsl := Lib.hid hsl
          go_wp2_with fail
          go_roundw
          case rel => exact ⟨k + 1, sl.set s ((k : Int) + 1), by omega, by go_num, Lib.hid (by rw [List.length_set]; exact HL.out), Lib.hid (by have := nz_set sl s ((k : Int) + 1); have := HZ.out; omega), Lib.hid (by rw [HF.out, HS.out, HP'.out]), Lib.hid (HO.out.set Hsl.out _), qr.setCell (p := ⟨w.heap.size, s, none⟩) (Nat.le_refl _) _⟩
          case measure => simp [intOf]; omega
    · have HS := Lib.hid (layF_end ks k sl (by omega))
      go_wp2_with fail
      go_ret
      exact ⟨w.heap.size, rfl, Nat.le_refl _, by rw [HF.out, HS.out]; exact HO.out, qr⟩
end Go.Proofs.YtnifmfdlocgefaaGreat.Hs

namespace Go.Proofs.YtnifmfdlocgefaaGreat.Kit
open Go.RowKit

/-- the cells that a slice value reads -/
def Src (w : World) (A : Option Addr) (cs : List Value) : Prop := 0 < cs.length → ∃ ad, A = some ad ∧ ∀ j v, cs[j]? = some v → w.cell? (ad.add j) = some v
theorem Src.keep {w w' : World} {A : Option Addr} {cs : List Value} {B : Nat} (h : Src w A cs) (hb : Below B w w') (hlt : ∀ ad, A = some ad → ad.block < B) : Src w' A cs := fun h0 => by
  obtain ⟨ad, e, hc⟩ := h h0
  refine ⟨ad, e, fun j v hv => (hb.cell ?_).trans (hc j v hv)⟩
  have : (ad.add j).block = ad.block := by unfold Addr.add; split <;> rfl
  rw [this]; exact hlt ad e

section
variable {P : Program} (w : World)
theorem run_append_none (base : Nat) (t ty e : TypeId) (i : TypeInfo) (size : Nat) (ht : P.underlying t = some (.slice e)) (hi : P.info? e = some i)
    (v : Value) (n : Nat) (xs : List Value) (hown : w.ownsRow base e size v n xs) (c : Nat) : (Builtin.append_ #[t, t] ty #[v, .slice none 0 c]).run P w = .ok v w := by
  obtain ⟨_, ⟨rfl, rfl⟩ | ⟨g, cap, cur, rfl, _, _, hnc, _⟩⟩ := hown
  · simp [Builtin.append_, run_underlying ht, sizeOf, typeInfo, hi, Builtin.lenOf, Builtin.firstCells]
  · simp [Builtin.append_, run_underlying ht, sizeOf, typeInfo, hi, Builtin.lenOf, Builtin.firstCells, hnc, storeCells]
theorem run_append_src (base : Nat) (t ty e : TypeId) (i : TypeInfo) (z : Value) (size bytes : Nat) (ht : P.underlying t = some (.slice e)) (hi : P.info? e = some i) (hz : i.zero = some z)
    (hsize : i.size = size) (hby : i.bytes = bytes) (hzs : z.cells.size = size) (hsz : 0 < size)
    (v : Value) (n : Nat) (xs : List Value) (hown : w.ownsRow base e size v n xs)
    (A : Option Addr) (m c : Nat) (cs : List Value) (hl : cs.length = m * size) (hc : Src w A cs) (h1 : ∀ u ∈ cs, u.oneCell' = true)
    (h63 : n + m ≤ maxLen) (hbytes : (n + m) * bytes ≤ 140737488355328) (hbase : base ≤ w.heap.size) :
    ∃ v' w', (Builtin.append_ #[t, t] ty #[v, .slice A m c]).run P w = .ok v' w' ∧ w'.ownsRow base e size v' (n + m) (xs ++ cs) ∧ w.grownBy w' v.ownBlock ∧
      (v'.ownBlock = v.ownBlock ∨ v'.ownBlock = some w.heap.size) := by
  cases A with
  | none =>
    have h0 : ¬ 0 < cs.length := fun h => by obtain ⟨ad, e, _⟩ := hc h; cases e
    obtain rfl : cs = [] := List.eq_nil_of_length_eq_zero (by omega)
    have hm : m = 0 := by
      rcases Nat.eq_zero_or_pos m with e | e
      · exact e
      · have := Nat.mul_pos e hsz
        simp at hl
        omega
    subst hm
    exact ⟨v, w, run_append_none w base t ty e i size ht hi v n xs hown c, by simpa using hown, World.grownBy.refl w _, .inl rfl⟩
  | some ad =>
    have hn : ∀ j u, cs[j]? = some u → w.cell? (ad.add j) = some u := fun j u hu => by
      have hj := (List.getElem?_eq_some_iff.1 hu).1
      obtain ⟨ad', e, h⟩ := hc (by omega)
      injection e with e
      subst e
      exact h j u hu
    obtain ⟨v', w', hr, h2, h3, _, h5⟩ := run_append_own_at (P := P) w base t ty e i z size bytes ht hi hz hsize hby hzs hsz v n xs hown ad m c cs hl hn h1 h63 hbytes hbase
    exact ⟨v', w', hr, h2, h3, h5⟩
theorem wp_append_src {o : Oper} {a : Act} {K : Act → World → Prop} {R : Exit → Act → World → Prop} (s x : Operand) (t : TypeId)
    (ho : o.op = .call { callee := .builtin .append, args := #[s, x], argTypes := #[t, t] })
    (base : Nat) (e : TypeId) (i : TypeInfo) (z : Value) (size bytes : Nat) (ht : P.underlying t = some (.slice e)) (hi : P.info? e = some i) (hz : i.zero = some z)
    (hsize : i.size = size) (hby : i.bytes = bytes) (hzs : z.cells.size = size) (hsz : 0 < size)
    (v : Value) (n : Nat) (xs : List Value) (hs : a.eval s = v) (hown : w.ownsRow base e size v n xs)
    (A : Option Addr) (m c : Nat) (cs : List Value) (hx : a.eval x = .slice A m c) (hl : cs.length = m * size) (hc : Src w A cs) (h1 : ∀ u ∈ cs, u.oneCell' = true)
    (h63 : n + m ≤ maxLen) (hbytes : (n + m) * bytes ≤ 140737488355328) (hbase : base ≤ w.heap.size)
    (h : ∀ v' w', w'.ownsRow base e size v' (n + m) (xs ++ cs) → w.grownBy w' v.ownBlock → (v'.ownBlock = v.ownBlock ∨ v'.ownBlock = some w.heap.size) → K (a.put o.dst v') w') : o.wp P a w K R := by
  obtain ⟨v', w', hrun, h2, h3, h4⟩ := run_append_src (P := P) w base t o.type e i z size bytes ht hi hz hsize hby hzs hsz v n xs hown A m c cs hl hc h1 h63 hbytes hbase
  unfold Oper.wp execOp
  simp only [ho, resolve, invoke, builtin, Sem.run_bind, Sem.run_pure, Result.andThen_ok, List.map_toArray, List.map_cons, List.map_nil, hs, hx, hrun]
  exact h v' w' h2 h3 h4
theorem wpList_append_src {ops : Array Oper} {rest : List Oper} {o : Oper} {a : Act} {R : Exit → Act → World → Prop} (hgd : o.guard = none) (s x : Operand) (t : TypeId)
    (ho : o.op = .call { callee := .builtin .append, args := #[s, x], argTypes := #[t, t] })
    (base : Nat) (e : TypeId) (i : TypeInfo) (z : Value) (size bytes : Nat) (ht : P.underlying t = some (.slice e)) (hi : P.info? e = some i) (hz : i.zero = some z)
    (hsize : i.size = size) (hby : i.bytes = bytes) (hzs : z.cells.size = size) (hsz : 0 < size)
    (v : Value) (n : Nat) (xs : List Value) (hs : a.eval s = v) (hown : w.ownsRow base e size v n xs)
    (A : Option Addr) (m c : Nat) (cs : List Value) (hx : a.eval x = .slice A m c) (hl : cs.length = m * size) (hc : Src w A cs) (h1 : ∀ u ∈ cs, u.oneCell' = true)
    (h63 : n + m ≤ maxLen) (hbytes : (n + m) * bytes ≤ 140737488355328) (hbase : base ≤ w.heap.size)
    (h : ∀ v' w', w'.ownsRow base e size v' (n + m) (xs ++ cs) → w.grownBy w' v.ownBlock → (v'.ownBlock = v.ownBlock ∨ v'.ownBlock = some w.heap.size) → wpList P ops R rest (a.put o.dst v') w') : wpList P ops R (o :: rest) a w :=
  wpList_plain hgd fun _ hK => wp_append_src w s x t ho base e i z size bytes ht hi hz hsize hby hzs hsz v n xs hs hown A m c cs hx hl hc h1 h63 hbytes hbase fun v' w' h2 h3 h4 => hK _ _ (h v' w' h2 h3 h4)
theorem step_append_src {ops : Array Oper} {o : Oper} {a : Act} {K : Act → World → Prop} {R : Exit → Act → World → Prop} {E : Prop} (hgd : o.guard = none) (s x : Operand) (t : TypeId)
    (ho : o.op = .call { callee := .builtin .append, args := #[s, x], argTypes := #[t, t] })
    (base : Nat) (e : TypeId) (i : TypeInfo) (z : Value) (size bytes : Nat) (ht : P.underlying t = some (.slice e)) (hi : P.info? e = some i) (hz : i.zero = some z)
    (hsize : i.size = size) (hby : i.bytes = bytes) (hzs : z.cells.size = size) (hsz : 0 < size)
    (v : Value) (n : Nat) (xs : List Value) (hs : a.eval s = v) (hown : w.ownsRow base e size v n xs)
    (A : Option Addr) (m c : Nat) (cs : List Value) (hx : a.eval x = .slice A m c) (hl : cs.length = m * size) (hc : Src w A cs) (h1 : ∀ u ∈ cs, u.oneCell' = true)
    (h63 : n + m ≤ maxLen) (hbytes : (n + m) * bytes ≤ 140737488355328) (hbase : base ≤ w.heap.size)
    (h : ∀ v' w', w'.ownsRow base e size v' (n + m) (xs ++ cs) → w.grownBy w' v.ownBlock → (v'.ownBlock = v.ownBlock ∨ v'.ownBlock = some w.heap.size) → K (a.put o.dst v') w') :
    if Region.wanted o (yielded ops a.tmps) = true then Oper.wp P o a w K R else E := by
  have hw : Region.wanted o (yielded ops a.tmps) = true := by simp [Region.wanted, hgd]
  rw [if_pos hw]
  exact wp_append_src w s x t ho base e i z size bytes ht hi hz hsize hby hzs hsz v n xs hs hown A m c cs hx hl hc h1 h63 hbytes hbase h
end

/-- a block of no cells, made by the call, is an empty row of its own -/
theorem own_empty {w : World} {base g : Nat} {e : TypeId} {size : Nat} (hb : base ≤ g) (hg : w.heap[g]? = some (.cells #[] e (0, 0))) : w.ownsRow base e size (.slice (some ⟨g, 0, none⟩) 0 0) 0 [] :=
  ⟨by simp, .inr ⟨g, 0, #[], rfl, hb, hg, Nat.le_refl _, Nat.zero_le _, by simp, by simp⟩⟩
theorem heap_two_old (W : World) (a b : Obj) : ((W.alloc a).alloc b).heap[W.heap.size]? = some a := (Below.heap_alloc _ _ _ (by simp)).trans (heap_alloc_new W a)
theorem heap_two_new (W : World) (a b : Obj) : ((W.alloc a).alloc b).heap[W.heap.size + 1]? = some b := by simpa using heap_alloc_new (W.alloc a) b
/-- the cells of a block that is known whole -/
theorem src_block {w : World} {g : Nat} {cs : Array Value} {t : TypeId} {fr : Nat × Nat} (hg : w.heap[g]? = some (.cells cs t fr)) : Src w (some ⟨g, 0, none⟩) cs.toList :=
  fun _ => ⟨_, rfl, World.news_of_block hg⟩
end Go.Proofs.YtnifmfdlocgefaaGreat.Kit

namespace Go.Proofs.YtnifmfdlocgefaaGreat.Hs
open Go.RowKit Kit

/-- a slice value that reads these cells, below block B -/
def SrcB (w : World) (B : Nat) (A : Option Addr) (cs : List Value) : Prop := 0 < cs.length → ∃ ad, A = some ad ∧ ad.block < B ∧ ∀ j v, cs[j]? = some v → w.cell? (ad.add j) = some v
theorem SrcB.keep {w w' : World} {B : Nat} {A : Option Addr} {l : List Value} (h : SrcB w B A l) (hb : Below B w w') : SrcB w' B A l := fun h0 => by
  obtain ⟨ad, e, hlt, hc⟩ := h h0
  exact ⟨ad, e, hlt, fun i s hs => (hb.cell (by rw [add_block]; exact hlt)).trans (hc i s hs)⟩
theorem SrcB.src {w : World} {B : Nat} {A : Option Addr} {l : List Value} (h : SrcB w B A l) : Src w A l := fun h0 => by
  obtain ⟨ad, e, _, hc⟩ := h h0
  exact ⟨ad, e, hc⟩
theorem SrcB.more {w : World} {B B' : Nat} {A : Option Addr} {l : List Value} (h : SrcB w B A l) (hB : B ≤ B') : SrcB w B' A l := fun h0 => by
  obtain ⟨ad, e, hlt, hc⟩ := h h0
  exact ⟨ad, e, by omega, hc⟩
theorem sliceInfo : (Tryz.prog.info? 24).map (fun i => (i.zero, i.size, i.bytes)) = some (some (.slice none 0 0), 1, 24) := by kernel_rfl
def GrowPost (E : TypeId) (w : World) (e : Ending) (w' : World) : Prop := ∃ v, e = .returned v ∧ w'.ownsRow w.heap.size E 1 v 0 [] ∧ Q w w'
def ClonePost (sl : List Int) (w : World) (e : Ending) (w' : World) : Prop :=
  ∃ A c, e = .returned (.slice A sl.length c) ∧ (0 < sl.length → ∃ g, A = some ⟨g, 0, none⟩ ∧ w.heap.size ≤ g ∧ OwnI w' g sl) ∧ Q w w'
def cellsI (sl : List Int) : List Value := sl.map (Value.int .i64)
theorem cellsI_get {sl : List Int} {j : Nat} {v : Value} (h : (cellsI sl)[j]? = some v) : ∃ x, sl[j]? = some x ∧ v = .int .i64 x := by
  unfold cellsI at h
  rw [List.getElem?_map, Option.map_eq_some_iff] at h
  obtain ⟨x, h1, h2⟩ := h
  exact ⟨x, h1, h2.symm⟩
theorem cellsI_one (sl : List Int) : ∀ u ∈ cellsI sl, u.oneCell' = true := fun u hu => by
  unfold cellsI at hu
  rw [List.mem_map] at hu
  obtain ⟨x, _, rfl⟩ := hu
  rfl
theorem Ints.srcB {w : World} {B : Nat} {A : Option Addr} {sl : List Int} (h : Ints w B A sl) : SrcB w B A (cellsI sl) := fun h0 => by
  obtain ⟨ad, e, hlt, hc⟩ := h (by simpa [cellsI] using h0)
  refine ⟨ad, e, hlt, fun j v hv => ?_⟩
  obtain ⟨x, hx, rfl⟩ := cellsI_get hv
  exact hc j x hx
theorem OwnI.of_own {w : World} {base g n cap : Nat} {e : TypeId} {sl : List Int} (h : w.ownsRow base e 1 (.slice (some ⟨g, 0, none⟩) n cap) n (cellsI sl)) : OwnI w g sl := by
  refine ⟨(h.lt g rfl).2, fun i x hx => ⟨?_, h.frozenAt i⟩⟩
  have := h.cells (g := g) rfl i (.int .i64 x) (by unfold cellsI; rw [List.getElem?_map, hx]; rfl)
  rwa [add_zero_head] at this

set_option maxRecDepth 100000 in
set_option maxHeartbeats 1000000 in
theorem clone_any (A : Option Addr) (n c : Nat) (sl : List Int) (w : World) (hn : n = sl.length) (hr : Ints w w.heap.size A sl) (hl : sl.length ≤ 100000) :
    Calls Tryz.prog 103 #[.slice A n c] w (ClonePost sl w) := by
  subst hn
  have heq := fun u => Lib.run_eql_slice_nil (P := Tryz.prog) u 24 3 A sl.length c 0 0 Tryz.underlying24
  cases A with
  | none =>
    have e : sl = [] := by
      rcases Nat.eq_zero_or_pos sl.length with h | h
      · exact List.eq_nil_of_length_eq_zero h
      · obtain ⟨_, e, _⟩ := hr h; cases e
    subst e
    have heq' : ∀ u, (binOp .eql 24 (.slice none 0 c) (.slice none 0 0)).run Tryz.prog u = .ok (.bool true) u := heq
    clear heq hr hl
    go_enter Tryz.func103, Tryz.ntmps103
    go_wp2_with fail
    go_ret
    exact ⟨none, 0, rfl, fun h => by simp at h, Q.refl _⟩
  | some ad =>
    have heq' : ∀ u, (binOp .eql 24 (.slice (some ad) sl.length c) (.slice none 0 0)).run Tryz.prog u = .ok (.bool false) u := heq
    obtain ⟨i0, hi, hz0, hz1, hz2⟩ := info_parts intInfo
    have Hi := Lib.hid hi
    have Hz0 := Lib.hid hz0
    have Hz1 := Lib.hid hz1
    have Hz2 := Lib.hid hz2
    have Hs := Lib.hid (hr.srcB.keep ((Q.refl w).alloc (Obj.cells #[] 3)))
    have Ho := Lib.hid (own_empty (base := w.heap.size) (e := 3) (size := 1) (Nat.le_refl _) (heap_alloc_new w (Obj.cells #[] 3)))
    clear heq hi hz0 hz1 hz2 hr
    go_enter Tryz.func103, Tryz.ntmps103
    go_wp2_with (at_builtin; refine wpList_append_src _ rfl (.tmp 5) (.tmp 6) _ rfl w.heap.size 3 i0 _ 1 8 Tryz.underlying24 Hi.out Hz0.out Hz1.out Hz2.out rfl (by omega) (.slice (some ⟨w.heap.size, 0, none⟩) 0 0) 0 [] rfl Ho.out (some ad) sl.length c (cellsI sl) rfl (by simp [cellsI]) Hs.out.src (cellsI_one sl) (by unfold maxLen; omega) (by omega) (by simp) ?_; intro v' w' own' gr' _)
    have q2 : Q w w' := ((Q.refl w).alloc (Obj.cells #[] 3)).grown gr' (by simp) (by simp [Value.ownBlock])
    rw [Nat.zero_add, List.nil_append] at own'
    have Ho' := Lib.hid own'
    clear own' gr'
    go_wp2_with fail
    go_ret
    have own' := Ho'.out
    have own2 := own'
    obtain ⟨_, ⟨rfl, hx⟩ | ⟨g, cap, cur, rfl, hg, _⟩⟩ := own'
    · have e : sl.length = 0 := hx
      exact ⟨none, 0, by rw [e]; rfl, fun h => by omega, q2⟩
    · exact ⟨_, cap, rfl, fun _ => ⟨g, rfl, hg, OwnI.of_own own2⟩, q2⟩
end Go.Proofs.YtnifmfdlocgefaaGreat.Hs

namespace Go.Proofs.YtnifmfdlocgefaaGreat.Hs
open Go.RowKit Kit

/-- the values of a row's cells -/
theorem Keys.vals {w : World} {B : Nat} {A : Option Addr} {ks : List (List Int)} (h : Keys w B A ks) :
    ∃ vs : List Value, vs.length = ks.length ∧ SrcB w B A vs ∧ ∀ (i : Nat) (k : List Int), ks[i]? = some k → ∃ a c, k.length ≤ c ∧ vs[i]? = some (Value.slice a k.length c) ∧ Ints w B a k := by
  rcases Nat.eq_zero_or_pos ks.length with h0 | h0
  · obtain rfl := List.eq_nil_of_length_eq_zero h0
    exact ⟨[], rfl, fun h => by simp at h, fun i k hk => by simp at hk⟩
  · obtain ⟨ad, e, hlt, hc⟩ := h h0
    have hv : ∀ (i : Nat) (k : List Int), ks[i]? = some k → ∃ a c, k.length ≤ c ∧ ((List.range ks.length).map fun i => (w.cell? (ad.add i)).getD undef)[i]? = some (Value.slice a k.length c) ∧ w.cell? (ad.add i) = some (Value.slice a k.length c) ∧ Ints w B a k := fun i k hk => by
      obtain ⟨a, c, hle, c0, hi⟩ := hc i k hk
      have hil := (List.getElem?_eq_some_iff.1 hk).1
      exact ⟨a, c, hle, by simp [hil, c0], c0, hi⟩
    refine ⟨(List.range ks.length).map fun i => (w.cell? (ad.add i)).getD undef, by simp, fun _ => ⟨ad, e, hlt, fun j v hj => ?_⟩, fun i k hk => ?_⟩
    · have hjl : j < ks.length := by have := (List.getElem?_eq_some_iff.1 hj).1; simpa using this
      obtain ⟨a, c, _, h1, h2, _⟩ := hv j ks[j] (List.getElem?_eq_getElem hjl)
      rw [h1] at hj
      rw [h2, hj]
    · obtain ⟨a, c, hle, h1, _, h3⟩ := hv i k hk
      exact ⟨a, c, hle, h1, h3⟩
theorem vals_one {w : World} {B : Nat} {ks : List (List Int)} {vs : List Value} (hl : vs.length = ks.length) (h : ∀ (i : Nat) (k : List Int), ks[i]? = some k → ∃ a c, k.length ≤ c ∧ vs[i]? = some (Value.slice a k.length c) ∧ Ints w B a k) : ∀ u ∈ vs, u.oneCell' = true := fun u hu => by
  obtain ⟨i, hi, rfl⟩ := List.getElem_of_mem hu
  obtain ⟨a, c, _, e, _⟩ := h i ks[i] (List.getElem?_eq_getElem (by omega))
  rw [List.getElem?_eq_getElem hi] at e
  injection e with e
  rw [e]
  rfl

def cutAt (A : Option Addr) (c n : Nat) : Option Addr := if c = n then A else A.map (·.add n)
theorem mem_len {ks : List (List Int)} {k : List Int} (h : k ∈ ks) : k.length ≤ ks.flatten.length := by
  induction ks with
  | nil => cases h
  | cons x l ih =>
    rw [List.flatten_cons, List.length_append]
    rcases List.mem_cons.1 h with rfl | h
    · omega
    · have := ih h; omega
theorem slice_l (A : Option Addr) (n c l : Nat) (h : l ≤ n) (u : World) : (Instr.slice 24 (.slice A n c) (some (.int .i64 (l : Int))) none none).run Tryz.prog u = .ok (.slice (cutAt A c l) (n - l) (c - l)) u := by
  obtain ⟨i0, hi, hz0, hz1, hz2⟩ := info_parts intInfo
  simp [Instr.slice, run_underlying Tryz.underlying24, Instr.sliceBounds, Instr.sliceBound, asIntOf, sizeOf, typeInfo, hi, hz1, h, cutAt]

theorem own_form {w : World} {base n : Nat} {e : TypeId} {v : Value} {xs : List Value} (h : w.ownsRow base e 1 v n xs) :
    ∃ A c, v = .slice A n c ∧ n ≤ c ∧ (0 < n → ∃ g, A = some ⟨g, 0, none⟩ ∧ base ≤ g ∧ g < w.heap.size ∧ ∀ j u, xs[j]? = some u → w.cell? ⟨g, j, none⟩ = some u ∧ w.frozen? ⟨g, j, none⟩ = false) := by
  have h2 := h
  obtain ⟨hl, ⟨rfl, rfl⟩ | ⟨g, cap, cur, rfl, hg, hh, hc, _⟩⟩ := h
  · exact ⟨none, 0, rfl, Nat.le_refl _, fun h => by omega⟩
  · refine ⟨_, cap, rfl, hc, fun _ => ⟨g, rfl, hg, (Array.getElem?_eq_some_iff.1 hh).1, fun j u hu => ⟨?_, h2.frozenAt j⟩⟩⟩
    have := h2.cells (g := g) rfl j u hu
    rwa [add_zero_head] at this

def CopyPost (ks : List (List Int)) (w : World) (e : Ending) (w' : World) : Prop :=
  ∃ A c, e = .returned (.slice A ks.length c) ∧ (∀ W : World, (∀ p : Addr, w.heap.size ≤ p.block → p.block < w'.heap.size → W.cell? p = w'.cell? p) → Keys W w'.heap.size A ks) ∧ Q w w' ∧ ks.length ≤ c

end Go.Proofs.YtnifmfdlocgefaaGreat.Hs
