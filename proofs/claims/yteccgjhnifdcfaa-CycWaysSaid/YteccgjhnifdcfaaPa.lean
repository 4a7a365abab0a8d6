/-
  What the proofs lean on, part 1 of 11.
-/
import Derived.Test.YteccgjhnifdcfaaProg
import Derived.WalkKit
import Derived.ProofKit
import Derived.Carry
import Derived.Handy
import Derived.OpenShut
import Derived.ChangeSame
import Derived.Lib.Hide
import Derived.Deep.Draws
import Derived.Deep.QuietTactic
import Derived.BigQuiet
import Derived.Deep.DeepCutAuto
import Derived.Outline
import Derived.RangeFuncNested
import Derived.RangeFuncBound
import Derived.RangeFuncCalls
import Derived.RangeFuncLeaves
import Derived.Shelf.Abstract
import Derived.Shelf.RegionOpen
import Derived.OwnWalkIn
import Derived.TacticsInMore
import Derived.LoopNIn
import Derived.LoopIn
import Derived.Laws.EntriesVeiled
import Derived.Deep.RegionHeld
import Derived.OwnWalk
import Derived.Laws.MakeOwn
import Derived.Laws.OwnMore
import Derived.Maps.AppendAt
import Derived.Deep.AppendLies
import Derived.Deep.RegionLaw
import Derived.RegionTactic
import Derived.Laws.CopyOwn
import Derived.Lib.AppendZeros
import Derived.Lib.SliceRun
import Derived.Deep.RegionHeld3
import Derived.Deep.Matrix
import Derived.Deep.SlicePairs
import Derived.Lib.SmallJoins
import Derived.SizedLaws
namespace Go.Proofs.Yteccgjhnifdcfaa.Kit
open Go.RowKit Go.WideShapes Go.ChangeShapes

/-- old memory is as it was -/
abbrev Q (w w' : World) : Prop := Below w.heap.size w w'
theorem Q.refl (w : World) : Q w w := Below.refl _ _
theorem Q.trans {a b c : World} (h : Q a b) (k : Q b c) : Q a c := Below.trans h (Below.mono k h.size)
theorem Q.alloc {a b : World} (h : Q a b) (o : Obj) : Q a (b.alloc o) := Below.alloc h h.size o
theorem Q.drew {a b : World} (h : Q a b) : Q a b.drew := Below.drew h
theorem Q.drewN {a b : World} (h : Q a b) (n : Nat) : Q a (b.drewN n) := ⟨h.os, h.tape, h.output, h.size, h.block⟩

section
variable {H : Type} {enc : TypeId × Value → H} {P : Program}

/-- all arguments read as they did, where old memory is as it was -/
theorem trodAll_stays (hl : laidOutB P = true) {W W' : World} (hb : Below W.heap.size W W') {sp : Nat → Bool} :
    ∀ (ts : List TypeId) (vs : List Value) (ds : List (DataW H)) (ps : List MemPlace), (∀ t ∈ ts, P.readableRec t = true ∧ t < P.types.size) →
      DataW.TrodAll enc P W 0 (fun _ => true) true ts vs ds ps → (∀ p ∈ ps, p.block < W.heap.size) → (∀ p ∈ ps, sp p.block = true) → DataW.TrodAll enc P W' 0 sp true ts vs ds ps
  | [], _, _, _, _, h, _, _ => by
    obtain ⟨rfl, rfl, rfl⟩ := trodAll_nil h
    exact trodAll_mk0
  | t :: ts, _, _, _, hts, h, hlt, hsp => by
    obtain ⟨v, vs, d, ds, p, q, rfl, rfl, rfl, h1, h2⟩ := trodAll_cons h
    have ht := hts t (List.mem_cons_self ..)
    exact trodAll_cons_mk (WideElems.Trod_stays hl ht.1 ht.2 h1 (fun x hx => hb.same (hlt x (List.mem_append_left _ hx))) (fun x hx => hsp x (List.mem_append_left _ hx)))
      (trodAll_stays hl hb ts vs ds q (fun u hu => hts u (List.mem_cons_of_mem _ hu)) h2 (fun x hx => hlt x (List.mem_append_right _ hx)) (fun x hx => hsp x (List.mem_append_right _ hx)))

/-- A LAW's LAST STEP -/
theorem post_law {f : Func} {s : ChangeSpec} {apart fresh handsOn again : Bool} {W W' : World} {args : Array Value} {ds gs : List (DataW H)} {before : List MemPlace} {tb : TypeId}
    (hl : laidOutB P = true) (hts : ∀ t ∈ f.params.toList, P.readableRec t = true ∧ t < P.types.size) (hv : s.vars = [])
    (hfn : s.fn H (ds ++ gs) = { results := [.lit (.bool true)], args := ds }) (hrt : f.resultTypes = #[tb]) (htb : P.underlying tb = some .bool)
    (hW : DataW.Whole enc P f.params.toList s.vars apart W args.toList ds gs before) (hb : Below W.heap.size W W') :
    s.post enc P f apart fresh handsOn again W args (.bool true) W' := by
  have hlt : ∀ p ∈ before, p.block < W.heap.size := fun p hp => hW.lt p hp
  have hW' := hW
  obtain ⟨p, q, hA, hV, rfl, hz, hn⟩ := hW
  rw [hv] at hV
  obtain ⟨rfl, rfl⟩ := trodVars_none hV
  rw [List.append_nil] at hlt hz hn hW'
  have hargs : ∀ sp : Nat → Bool, (∀ x ∈ p, sp x.block = true) → DataW.TrodAll enc P W' 0 sp true f.params.toList args.toList (s.fn H (ds ++ [])).args p := fun sp hsp => by
    rw [hfn]
    exact trodAll_stays hl hb _ _ _ _ hts hA hlt hsp
  have hres : ∀ (b : Nat) (sp : Nat → Bool) (hd : Bool), DataW.TrodAll enc P W' b sp hd f.resultTypes.toList ((Value.bool true).resultList f.resultTypes.size) (s.fn H (ds ++ [])).results [] := fun b sp hd => by
    rw [hfn, hrt]
    exact trodAll_mk1 (shut_bool htb _)
  have hvars : ∀ sp : Nat → Bool, DataW.TrodVars enc P W' sp s.vars (s.fn H (ds ++ [])).vars [] := fun sp => by
    rw [hfn, hv]
    rfl
  have hold : ∀ x ∈ p, (fun b => decide (b < W.heap.size)) x.block = true := fun x hx => by simpa using hlt x hx
  refine ⟨ds, [], p, [], p, [], hW', hres _ _ _, hargs _ hold, hvars _, World.keptBut_mono (fun x hx => ⟨hx, ?_⟩) (hb.frame (· ∈ p)), fun _ => ?_⟩
  · exact Or.inr (by simpa using hx)
  · refine ⟨ok_one hrt rfl (okWide_bool_mk htb _), _, _, ([] ++ p) ++ [], ⟨[] ++ p, [], trodAll_append (hargs _ (fun _ _ => rfl)) (hres _ _ _), hvars _, rfl, ?_, ?_⟩, ?_⟩
    · intro b off hp
      have hin : MemPlace.cell b off ∈ p := by simpa using hp
      rw [hb.frozen (hlt _ hin)]
      exact hz b off hin
    · intro ha
      simpa using hn ha
    · intro x hx _
      simpa using hx
end

theorem own : ownKnob Try.prog.godebug = none := by kernel_rfl
theorem laid : laidOutB Try.prog = true := by kernel_rfl
end Go.Proofs.Yteccgjhnifdcfaa.Kit

namespace Go.Proofs.Yteccgjhnifdcfaa.Hs
open Go.RowKit Kit

/-- a slice value that reads as these numbers, below block B -/
def Ints (w : World) (B : Nat) (A : Option Addr) (xs : List Int) : Prop :=
  0 < xs.length → ∃ ad, A = some ad ∧ ad.block < B ∧ ∀ i x, xs[i]? = some x → w.cell? (ad.add i) = some (.int .i64 x)
theorem add_block (a : Addr) (n : Nat) : (a.add n).block = a.block := by unfold Addr.add; split <;> rfl
theorem Ints.keep {w w' : World} {B : Nat} {A : Option Addr} {l : List Int} (h : Ints w B A l) (hb : Below B w w') : Ints w' B A l := fun h0 => by
  obtain ⟨ad, e, hlt, hc⟩ := h h0
  exact ⟨ad, e, hlt, fun i s hs => (hb.cell (by rw [add_block]; exact hlt)).trans (hc i s hs)⟩
theorem Ints.q {w w' : World} {B : Nat} {A : Option Addr} {l : List Int} (h : Ints w B A l) (hB : B ≤ w.heap.size) (hb : Q w w') : Ints w' B A l := h.keep (hb.mono hB)
theorem Ints.more {w : World} {B B' : Nat} {A : Option Addr} {l : List Int} (h : Ints w B A l) (hB : B ≤ B') : Ints w B' A l := fun h0 => by
  obtain ⟨ad, e, hlt, hc⟩ := h h0
  exact ⟨ad, e, by omega, hc⟩
theorem Ints.at_ {w : World} {B : Nat} {A : Option Addr} {l : List Int} (h : Ints w B A l) {k : Nat} (hk : k < l.length) :
    ∃ ad, A = some ad ∧ ad.block < B ∧ w.cell? (ad.add k) = some (.int .i64 l[k]) := by
  obtain ⟨ad, e, hlt, hc⟩ := h (by omega)
  exact ⟨ad, e, hlt, hc k l[k] (List.getElem?_eq_getElem hk)⟩

def mixB (h b : Int) : Int := bits .xor .u32 h b * 16777619 % 4294967296
def mixN (h m : Int) : Nat → Int
  | 0 => h
  | k + 1 => mixN (mixB h (m % 256)) (m / 256) k
def hashF (h : Int) : List Int → Int
  | [] => h
  | x :: l => hashF (mixN h (IntKind.u64.wrap x) 8) l
def hashI (l : List Int) : Int := hashF 2166136261 l
theorem hashF_at (h : Int) (l : List Int) (k : Nat) (hk : k < l.length) : hashF h (l.drop k) = hashF (mixN h (IntKind.u64.wrap l[k]) 8) (l.drop (k + 1)) := by
  rw [List.drop_eq_getElem_cons hk]; rfl
theorem hashF_end (h : Int) (l : List Int) (k : Nat) (hk : l.length ≤ k) : hashF h (l.drop k) = h := by
  rw [List.drop_eq_nil_of_le hk]; rfl

theorem u64_wrap (x : Int) : 0 ≤ IntKind.u64.wrap x ∧ IntKind.u64.wrap x < 18446744073709551616 := by
  have : IntKind.u64.wrap x = x % 18446744073709551616 := rfl
  rw [this]; omega
theorem mix_step0 (h m : Int) (j : Nat) (hj : j < 8) : mixN h m (8 - j) = mixN (bits .xor .u32 h (m % 256) * 16777619 % 4294967296) (m / 256) (8 - (j + 1)) := by
  have e : 8 - j = (8 - (j + 1)) + 1 := by omega
  rw [e, mixN, mixB]

set_option maxRecDepth 100000 in
set_option maxHeartbeats 400000 in
theorem refHash_any (A : Option Addr) (n c : Nat) (l : List Int) (w : World) (hn : n = l.length) (hr : Ints w w.heap.size A l) (hl : l.length ≤ maxLen) :
    Calls Try.prog 40 #[.slice A n c] w fun e w' => e = .returned (.int .u32 (hashI l)) ∧ w = w' := by
  subst hn
  unfold maxLen at hl
  go_enter Try.func40, Try.ntmps40
  go_wp2_with fail
  go_loopw [3, 4] (fun h i wr => ∃ (k : Nat) (g : Int), k ≤ l.length ∧ i = .int .i64 k ∧ h = .int .u32 g ∧ Hid (hashI l = hashF g (l.drop k)) ∧ w = wr) (fun _ i _ => l.length - (intOf i).toNat)
  case atStart => exact ⟨0, 2166136261, Nat.zero_le _, rfl, rfl, Lib.hid (by simp [hashI]), rfl⟩
  case round =>
    obtain ⟨k, g, hk, rfl, rfl, HF, rfl⟩ := hrel
    by_cases hlt : k < l.length
    · obtain ⟨ad, rfl, hb, c0⟩ := hr.at_ hlt
      have hw0 : 0 ≤ IntKind.u64.wrap l[k] ∧ IntKind.u64.wrap l[k] < 18446744073709551616 := u64_wrap _
      have HW := Lib.hid hw0
      clear hw0
      go_wp2_with fail
      go_loopw [3, 5, 6] (fun h n i wr => ∃ (j : Nat) (g' m : Int), j ≤ 8 ∧ i = .int .i64 j ∧ h = .int .u32 g' ∧ n = .int .u64 m ∧ Hid (0 ≤ m ∧ m < 18446744073709551616) ∧ Hid (mixN g (IntKind.u64.wrap l[k]) 8 = mixN g' m (8 - j)) ∧ w = wr) (fun _ _ i _ => 8 - (intOf i).toNat)
      case atStart => exact ⟨0, g, _, by omega, rfl, rfl, rfl, HW, Lib.hid rfl, rfl⟩
      case round =>
        obtain ⟨j, g', m, hj, rfl, rfl, rfl, HB, HM, rfl⟩ := hrel
        by_cases hjl : j < 8
        · have HS := Lib.hid (mix_step0 g' m j hjl)
          have hm0 : 0 ≤ m := HB.out.1
          have hm1 : Hid (0 ≤ m / 256 ∧ m / 256 < 18446744073709551616) := by have := HB.out; exact Lib.hid (by omega)
          have hdv : IntKind.u64.wrap (m.tdiv 256) = m / 256 := by
            have e : IntKind.u64.wrap (m.tdiv 256) = m.tdiv 256 % 18446744073709551616 := rfl
            have hb := HB.out
            rw [e, Int.tdiv_eq_ediv_of_nonneg hm0]; omega
          go_wp2_with fail
          go_roundw
          case rel => exact ⟨j + 1, _, m / 256, by omega, by go_num, rfl, rfl, hm1, Lib.hid (HM.out.trans HS.out), trivial⟩
          case measure => simp [intOf]; omega
        · obtain rfl : j = 8 := by omega
          have HS : Hid (mixN g (IntKind.u64.wrap l[k]) 8 = g') := HM.out
          have HT := Lib.hid (hashF_at g l k hlt)
          go_wp2_with fail
          go_roundw
          case rel => exact ⟨k + 1, _, by omega, by go_num, rfl, Lib.hid (by rw [HF.out, HT.out, HS.out]), trivial⟩
          case measure => simp [intOf]; omega
    · have HT := Lib.hid (hashF_end g l k (by omega))
      go_wp2_with fail
      go_ret
      exact ⟨by rw [HF.out, HT.out]; rfl, rfl⟩

def sizeG (n p : Nat) : Nat := if h : 6 * p < n ∧ 0 < p then sizeG n (2 * p) else 8 * p
  termination_by n - p
theorem sizeG_lt {n p : Nat} (h : 6 * p < n) (h0 : 0 < p) : sizeG n p = sizeG n (2 * p) := by rw [sizeG, dif_pos ⟨h, h0⟩]
theorem sizeG_ge {n p : Nat} (h : n ≤ 6 * p) : sizeG n p = 8 * p := by rw [sizeG, dif_neg (by omega)]
def sizeN (n : Nat) : Nat := sizeG n 1

set_option maxRecDepth 100000 in
set_option maxHeartbeats 400000 in
theorem refSize_any (n : Nat) (w : World) (hn : n ≤ 1000000) :
    Calls Try.prog 39 #[.int .i64 n] w fun e w' => e = .returned (.int .i64 (sizeN n)) ∧ w = w' := by
  go_enter Try.func39, Try.ntmps39
  go_wp2_with fail
  go_loopw [3] (fun s wr => ∃ p : Nat, 0 < p ∧ p ≤ 1000000 ∧ s = .int .i64 (8 * p) ∧ Hid (sizeN n = sizeG n p) ∧ w = wr) (fun s _ => 8000000 - (intOf s).toNat)
  case atStart => exact ⟨1, by omega, by omega, rfl, Lib.hid rfl, rfl⟩
  case round =>
    obtain ⟨p, hp, hp2, rfl, HS, rfl⟩ := hrel
    by_cases hlt : 6 * p < n
    · have HT := Lib.hid (sizeG_lt hlt hp)
      go_wp2_with fail
      go_roundw
      case rel => exact ⟨2 * p, by omega, by omega, by simp; omega, Lib.hid (HS.out.trans HT.out), trivial⟩
      case measure => simp [intOf]; omega
    · have HT := Lib.hid (sizeG_ge (Nat.le_of_not_lt hlt))
      go_wp2_with fail
      go_ret
      exact ⟨by rw [HS.out, HT.out]; simp, rfl⟩

def eqL : List Int → List Int → Bool
  | [], [] => true
  | x :: l, y :: m => (x == y) && eqL l m
  | _, _ => false
theorem eqL_iff : ∀ (l m : List Int), eqL l m = true ↔ l = m
  | [], [] => by simp [eqL]
  | [], _ :: _ => by simp [eqL]
  | _ :: _, [] => by simp [eqL]
  | x :: l, y :: m => by simp [eqL, eqL_iff l m]
theorem eqL_len {l m : List Int} (h : l.length ≠ m.length) : eqL l m = false := by
  cases e : eqL l m
  · rfl
  · rw [eqL_iff] at e; subst e; exact absurd rfl h
theorem eqL_at (l m : List Int) (k : Nat) (h1 : k < l.length) (h2 : k < m.length) : eqL (l.drop k) (m.drop k) = ((l[k] == m[k]) && eqL (l.drop (k + 1)) (m.drop (k + 1))) := by
  rw [List.drop_eq_getElem_cons h1, List.drop_eq_getElem_cons h2]; rfl
theorem eqL_end (l m : List Int) (k : Nat) (h1 : l.length ≤ k) (h2 : m.length ≤ k) : eqL (l.drop k) (m.drop k) = true := by
  rw [List.drop_eq_nil_of_le h1, List.drop_eq_nil_of_le h2]; rfl

end Go.Proofs.Yteccgjhnifdcfaa.Hs

namespace Go.Proofs.Yteccgjhnifdcfaa.Hs
open Go.RowKit Go.Shelf Kit

attribute [local go_sem] Oper.semAt_some

/-- what comes, one by one: which slot, and what stands there -/
def visit (sl : List Int) (h j : Nat) : Nat × Int := ((h + j) % sl.length, sl[(h + j) % sl.length]?.getD 0)
def visits (sl : List Int) (h k : Nat) : List (Nat × Int) := (List.range k).map (visit sl h)
theorem visits_succ (sl : List Int) (h k : Nat) : visits sl h (k + 1) = visits sl h k ++ [visit sl h k] := by simp [visits, List.range_succ]
/-- a slice value that reads as these rows of numbers, below block B -/
def Keys (w : World) (B : Nat) (A : Option Addr) (ks : List (List Int)) : Prop :=
  0 < ks.length → ∃ ad, A = some ad ∧ ad.block < B ∧ ∀ i k, ks[i]? = some k → ∃ a c, k.length ≤ c ∧ w.cell? (ad.add i) = some (.slice a k.length c) ∧ Ints w B a k
theorem Keys.keep {w w' : World} {B : Nat} {A : Option Addr} {l : List (List Int)} (h : Keys w B A l) (hb : Below B w w') : Keys w' B A l := fun h0 => by
  obtain ⟨ad, e, hlt, hc⟩ := h h0
  refine ⟨ad, e, hlt, fun i s hs => ?_⟩
  obtain ⟨a, c, hle, c0, hi⟩ := hc i s hs
  exact ⟨a, c, hle, (hb.cell (by rw [add_block]; exact hlt)).trans c0, hi.keep hb⟩
theorem Keys.q {w w' : World} {B : Nat} {A : Option Addr} {l : List (List Int)} (h : Keys w B A l) (hB : B ≤ w.heap.size) (hb : Q w w') : Keys w' B A l := h.keep (hb.mono hB)
theorem Keys.more {w : World} {B B' : Nat} {A : Option Addr} {l : List (List Int)} (h : Keys w B A l) (hB : B ≤ B') : Keys w B' A l := fun h0 => by
  obtain ⟨ad, e, hlt, hc⟩ := h h0
  refine ⟨ad, e, by omega, fun i s hs => ?_⟩
  obtain ⟨a, c, hle, c0, hi⟩ := hc i s hs
  exact ⟨a, c, hle, c0, hi.more hB⟩
theorem Keys.at_ {w : World} {B : Nat} {A : Option Addr} {l : List (List Int)} (h : Keys w B A l) {k : Nat} (hk : k < l.length) :
    ∃ ad, A = some ad ∧ ad.block < B ∧ ∃ a c, l[k].length ≤ c ∧ w.cell? (ad.add k) = some (.slice a l[k].length c) ∧ Ints w B a l[k] := by
  obtain ⟨ad, e, hlt, hc⟩ := h (by omega)
  exact ⟨ad, e, hlt, hc k l[k] (List.getElem?_eq_getElem hk)⟩

end Go.Proofs.Yteccgjhnifdcfaa.Hs

namespace Go.Proofs.Yteccgjhnifdcfaa.Hs
open Go.RowKit Go.Shelf Kit

attribute [local go_sem] Oper.semAt_some

def stepOf (p : Int → Bool) (x : Nat × Int) : Option (Int × Int) := if x.2 == 0 then some ((x.1 : Int), -1) else if p (wrap64 (x.2 - 1)) then some ((x.1 : Int), wrap64 (x.2 - 1)) else none
def seekL (p : Int → Bool) : List (Nat × Int) → Int × Int
  | [] => (-1, -1)
  | x :: l => (stepOf p x).getD (seekL p l)
def seekI (p : Int → Bool) (sl : List Int) (h : Nat) : Int × Int := seekL p (visits sl h sl.length)
theorem seekL_some {p : Int → Bool} {x : Nat × Int} {r : Int × Int} {m : List (Nat × Int)} (hx : stepOf p x = some r) : ∀ {l : List (Nat × Int)}, (∀ x ∈ l, stepOf p x = none) → seekL p (l ++ x :: m) = r
  | [], _ => by rw [List.nil_append, seekL, hx, Option.getD_some]
  | y :: l, h => by rw [List.cons_append, seekL, h y (List.mem_cons_self ..), Option.getD_none]; exact seekL_some hx fun z hz => h z (List.mem_cons_of_mem _ hz)
theorem visits_split (sl : List Int) (h k m : Nat) : ∃ t, visits sl h (k + m) = visits sl h k ++ t := by
  induction m with
  | zero => exact ⟨[], by simp⟩
  | succ m ih =>
    obtain ⟨t, e⟩ := ih
    exact ⟨t ++ [visit sl h (k + m)], by rw [← Nat.add_assoc, visits_succ, e, List.append_assoc]⟩
theorem seekI_stop {p : Int → Bool} {sl : List Int} {h k : Nat} {ini : List (Nat × Int)} {x : Nat × Int} {r : Int × Int} (hk : k ≤ sl.length) (e : ini ++ [x] = visits sl h k) (hi : ∀ y ∈ ini, stepOf p y = none) (hx : stepOf p x = some r) : seekI p sl h = r := by
  obtain ⟨t, ht⟩ := visits_split sl h k (sl.length - k)
  rw [show k + (sl.length - k) = sl.length by omega, ← e, List.append_assoc] at ht
  unfold seekI
  rw [ht]
  exact seekL_some hx hi

end Go.Proofs.Yteccgjhnifdcfaa.Hs

namespace Go.Proofs.Yteccgjhnifdcfaa.Hs
open Go.RowKit Kit

theorem least_of {P : Nat → Prop} [DecidablePred P] : ∀ (N : Nat), (∃ n, n < N ∧ P n) → ∃ n, n < N ∧ P n ∧ ∀ m, m < n → ¬ P m
  | 0, ⟨n, h, _⟩ => absurd h (Nat.not_lt_zero n)
  | N + 1, ⟨n, h, hp⟩ => by
    by_cases hx : ∃ n, n < N ∧ P n
    · obtain ⟨m, h1, h2, h3⟩ := least_of N hx
      exact ⟨m, by omega, h2, h3⟩
    · refine ⟨n, h, hp, fun m hm hq => hx ⟨m, by omega, hq⟩⟩

theorem reach (N h j : Nat) (hj : j < N) : ∃ J, J < N ∧ (h + J) % N = j := by
  have e := Nat.div_add_mod h N
  have hr : h % N < N := Nat.mod_lt _ (by omega)
  by_cases hle : h % N ≤ j
  · refine ⟨j - h % N, by omega, ?_⟩
    rw [show h + (j - h % N) = N * (h / N) + j by omega, Nat.mul_add_mod, Nat.mod_eq_of_lt hj]
  · refine ⟨j + N - h % N, by omega, ?_⟩
    rw [show h + (j + N - h % N) = N * (h / N + 1) + j by rw [Nat.mul_add]; omega, Nat.mul_add_mod, Nat.mod_eq_of_lt hj]

def hashN (l : List Int) : Nat := (hashI l).toNat
theorem mixN_range {h : Int} (h0 : 0 ≤ h ∧ h < 4294967296) (m : Int) (k : Nat) : 0 ≤ mixN h m k ∧ mixN h m k < 4294967296 := by
  induction k generalizing h m with
  | zero => exact h0
  | succ k ih => rw [mixN]; exact ih (by unfold mixB; omega) _
theorem hashF_range {h : Int} (h0 : 0 ≤ h ∧ h < 4294967296) (l : List Int) : 0 ≤ hashF h l ∧ hashF h l < 4294967296 := by
  induction l generalizing h with
  | nil => exact h0
  | cons x l ih => rw [hashF]; exact ih (mixN_range h0 _ _)
theorem hashN_eq (l : List Int) : hashI l = (hashN l : Int) := by
  have := hashF_range (h := 2166136261) (by omega) l
  unfold hashN hashI; omega
theorem hashN_lt (l : List Int) : hashN l < 4294967296 := by
  have := hashF_range (h := 2166136261) (by omega) l
  unfold hashN hashI; omega

abbrev nv : Int → Bool := fun _ => false
theorem visits_get (sl : List Int) (h k : Nat) (y : Nat × Int) (hy : y ∈ visits sl h k) : ∃ i, i < k ∧ y = visit sl h i := by
  unfold visits at hy
  rw [List.mem_map] at hy
  obtain ⟨i, hi, rfl⟩ := hy
  exact ⟨i, by simpa using hi, rfl⟩
theorem seekI_at {p : Int → Bool} {sl : List Int} {h J : Nat} {r : Int × Int} (hJ : J < sl.length) (hb : ∀ i, i < J → stepOf p (visit sl h i) = none) (hr : stepOf p (visit sl h J) = some r) : seekI p sl h = r :=
  seekI_stop (k := J + 1) hJ (visits_succ sl h J).symm (fun y hy => by obtain ⟨i, hi, rfl⟩ := visits_get sl h J y hy; exact hb i hi) hr
theorem seekI_free {p : Int → Bool} {sl : List Int} {h J : Nat} (hJ : J < sl.length) (hb : ∀ i, i < J → stepOf p (visit sl h i) = none) (hz : sl[(h + J) % sl.length]? = some 0) : seekI p sl h = ((((h + J) % sl.length : Nat) : Int), -1) :=
  seekI_at hJ hb (by simp [stepOf, visit, hz])

/-- how many slots are taken -/
def nz (sl : List Int) : Nat := sl.countP (· != 0)
theorem nz_set (sl : List Int) (s : Nat) (v : Int) : nz (sl.set s v) ≤ nz sl + 1 := by
  induction sl generalizing s with
  | nil => simp [nz]
  | cons x l ih =>
    cases s with
    | zero => simp only [List.set_cons_zero, nz, List.countP_cons]; split <;> split <;> omega
    | succ s => have := ih s; simp only [List.set_cons_succ, nz, List.countP_cons] at this ⊢; omega
theorem nz_free {sl : List Int} (h : nz sl < sl.length) : ∃ j, j < sl.length ∧ sl[j]? = some 0 := by
  induction sl with
  | nil => simp at h
  | cons x l ih =>
    by_cases hx : x = 0
    · subst hx; exact ⟨0, by simp, rfl⟩
    · have : nz l < l.length := by
        simp only [nz, List.countP_cons, List.length_cons] at h ⊢
        rw [if_pos (by simpa using hx)] at h
        omega
      obtain ⟨j, h1, h2⟩ := ih this
      exact ⟨j + 1, by simp; omega, by simpa using h2⟩
theorem nz_replicate (n : Nat) : nz (List.replicate n 0) = 0 := by simp [nz, List.countP_replicate]

/-- a free slot is found: the first one on the way -/
theorem free_way {sl : List Int} (h : Nat) (hf : nz sl < sl.length) : ∃ J, J < sl.length ∧ sl[(h + J) % sl.length]? = some 0 ∧ (∀ i, i < J → sl[(h + i) % sl.length]? ≠ some 0) ∧ seekI nv sl h = ((((h + J) % sl.length : Nat) : Int), -1) := by
  obtain ⟨j, hj, hz⟩ := nz_free hf
  obtain ⟨J0, hJ0, e0⟩ := reach sl.length h j hj
  obtain ⟨J, hJ, hz', hb⟩ := least_of (P := fun J => sl[(h + J) % sl.length]? = some 0) sl.length ⟨J0, hJ0, by rw [e0]; exact hz⟩
  refine ⟨J, hJ, hz', hb, seekI_free hJ (fun i hi => ?_) hz'⟩
  have hlt : (h + i) % sl.length < sl.length := Nat.mod_lt _ (by omega)
  have := hb i hi
  rw [List.getElem?_eq_getElem hlt] at this
  simp only [stepOf, visit, List.getElem?_eq_getElem hlt, Option.getD_some]
  rw [if_neg (by simpa using this)]
  rfl

def slotOf (sl : List Int) (key : List Int) : Nat := (seekI nv sl (hashN key)).1.toNat
def putSlot (sl : List Int) (key : List Int) (i : Nat) : List Int := sl.set (slotOf sl key) ((i : Int) + 1)
def layF : List (List Int) → Nat → List Int → List Int
  | [], _, sl => sl
  | k :: ks, i, sl => layF ks (i + 1) (putSlot sl k i)
def layI (ks : List (List Int)) : List Int := layF ks 0 (List.replicate (sizeN ks.length) 0)
theorem layF_at (ks : List (List Int)) (i : Nat) (sl : List Int) (h : i < ks.length) : layF (ks.drop i) i sl = layF (ks.drop (i + 1)) (i + 1) (putSlot sl ks[i] i) := by
  rw [List.drop_eq_getElem_cons h]; rfl
theorem layF_end (ks : List (List Int)) (i : Nat) (sl : List Int) (h : ks.length ≤ i) : layF (ks.drop i) i sl = sl := by
  rw [List.drop_eq_nil_of_le h]; rfl
theorem putSlot_length (sl : List Int) (key : List Int) (i : Nat) : (putSlot sl key i).length = sl.length := by simp [putSlot]
theorem layF_length (ks : List (List Int)) (i : Nat) (sl : List Int) : (layF ks i sl).length = sl.length := by
  induction ks generalizing i sl with
  | nil => rfl
  | cons k ks ih => rw [layF, ih, putSlot_length]
theorem layI_length (ks : List (List Int)) : (layI ks).length = sizeN ks.length := by rw [layI, layF_length, List.length_replicate]
theorem sizeG_spec (n : Nat) : ∀ (f p : Nat), n - p ≤ f → 0 < p → ∃ k, sizeG n p = 8 * (p * 2 ^ k) ∧ n ≤ 6 * (p * 2 ^ k) ∧ (k = 0 ∨ 3 * (p * 2 ^ k) < n)
  | f, p, hf, hp => by
    by_cases h : 6 * p < n
    · rw [sizeG_lt h hp]
      cases f with
      | zero => omega
      | succ f =>
        obtain ⟨k, e1, e2, e3⟩ := sizeG_spec n f (2 * p) (by omega) (by omega)
        have e : p * 2 ^ (k + 1) = 2 * p * 2 ^ k := by rw [Nat.pow_succ, Nat.mul_comm 2 p, Nat.mul_assoc, Nat.mul_comm (2 ^ k)]
        refine ⟨k + 1, by rw [e, e1], by rw [e]; exact e2, .inr ?_⟩
        rw [e]
        rcases e3 with rfl | e3
        · simp; omega
        · exact e3
    · exact ⟨0, by rw [sizeG_ge (by omega)]; simp, by simp; omega, .inl rfl⟩
theorem sizeN_spec (n : Nat) : ∃ k, sizeN n = 8 * 2 ^ k ∧ n ≤ 6 * 2 ^ k ∧ (k = 0 ∨ 3 * 2 ^ k < n) := by
  have := sizeG_spec n _ 1 (Nat.le_refl _) (by omega)
  simpa [sizeN] using this
theorem pow_pos2 (k : Nat) : 0 < 2 ^ k := Nat.pow_pos (by omega)
theorem sizeN_gt (n : Nat) : n < sizeN n := by
  obtain ⟨k, e, h, _⟩ := sizeN_spec n
  have := pow_pos2 k
  omega
theorem sizeN_le (n : Nat) : sizeN n ≤ 8 * (n + 1) := by
  obtain ⟨k, e, _, h⟩ := sizeN_spec n
  rcases h with rfl | h
  · simp at e; omega
  · omega
end Go.Proofs.Yteccgjhnifdcfaa.Hs

namespace Go.Proofs.Yteccgjhnifdcfaa.Hs
open Go.RowKit Kit

/-- block g holds these numbers, from its head on, and may be written -/
def OwnI (w : World) (g : Nat) (sl : List Int) : Prop := g < w.heap.size ∧ ∀ i x, sl[i]? = some x → w.cell? ⟨g, i, none⟩ = some (.int .i64 x) ∧ w.frozen? ⟨g, i, none⟩ = false
theorem add_zero_head (g j : Nat) : (⟨g, 0, none⟩ : Addr).add j = ⟨g, j, none⟩ := by
  unfold Addr.add
  by_cases h : j = 0 <;> simp [h]
theorem OwnI.ints {w : World} {g : Nat} {sl : List Int} (h : OwnI w g sl) : Ints w w.heap.size (some ⟨g, 0, none⟩) sl := fun _ => ⟨_, rfl, h.1, fun i x hx => by rw [add_zero_head]; exact (h.2 i x hx).1⟩
theorem OwnI.q {w w' : World} {g : Nat} {sl : List Int} (h : OwnI w g sl) (q : Q w w') : OwnI w' g sl :=
  ⟨Nat.lt_of_lt_of_le h.1 q.size, fun i x hx => ⟨(q.cell (p := ⟨g, i, none⟩) h.1).trans (h.2 i x hx).1, (q.frozen (p := ⟨g, i, none⟩) h.1).trans (h.2 i x hx).2⟩⟩
theorem OwnI.at_ {w : World} {g : Nat} {sl : List Int} (h : OwnI w g sl) {s : Nat} (hs : s < sl.length) : w.cell? ⟨g, s, none⟩ = some (.int .i64 sl[s]) ∧ w.frozen? ⟨g, s, none⟩ = false := h.2 s _ (List.getElem?_eq_getElem hs)
theorem OwnI.set {w : World} {g : Nat} {sl : List Int} (h : OwnI w g sl) {s : Nat} (hs : s < sl.length) (v : Int) : OwnI (w.setCell ⟨g, s, none⟩ (.int .i64 v)) g (sl.set s v) := by
  refine ⟨by simp [World.setCell]; exact h.1, fun i x hx => ?_⟩
  rw [World.frozen?_setCell]
  by_cases hi : s = i
  · subst hi
    rw [List.getElem?_set_self hs] at hx
    obtain rfl : v = x := by simpa using hx
    exact ⟨World.cell?_setCell_same' _ _ _ (by rw [(h.at_ hs).1]; rfl), (h.at_ hs).2⟩
  · rw [List.getElem?_set_ne hi] at hx
    have := h.2 i x hx
    exact ⟨(by have e := World.cell?_setCell_other (w := w) (a := ⟨g, s, none⟩) (b := ⟨g, i, none⟩) (v := .int .i64 v) (by intro e; injection e with _ e; exact hi e); exact e.trans this.1), this.2⟩
theorem OwnI.made (w : World) (n : Nat) (t : TypeId) : OwnI (w.alloc (.cells (madeCells #[.int .i64 0] n) t)) w.heap.size (List.replicate n 0) := by
  refine ⟨by simp, fun i x hx => ?_⟩
  have hi : i < n := by have := (List.getElem?_eq_some_iff.1 hx).1; simpa using this
  have e : x = 0 := by rw [List.getElem?_replicate, if_pos hi] at hx; simpa using hx.symm
  subst e
  refine ⟨?_, World.frozen?_alloc_at _ _ _ _ rfl⟩
  rw [cell_of_row _ _ _ _ _ _ (heap_alloc_new w _)]
  simp [madeCells, hi, Nat.mod_one]

theorem intInfo : (Try.prog.info? 3).map (fun i => (i.zero, i.size, i.bytes)) = some (some (.int .i64 0), 1, 8) := by kernel_rfl
theorem make_ints (n : Nat) (hn : n ≤ 100000000) (u : World) : (Instr.makeSlice 24 (.int .i64 (n : Int)) (.int .i64 (n : Int))).run Try.prog u = .ok (.slice (some ⟨u.heap.size, 0, none⟩) n n) (u.alloc (.cells (madeCells #[.int .i64 0] n) 3)) := by
  obtain ⟨i0, hi, hz0, hz1, hz2⟩ := info_parts intInfo
  have h := run_make (P := Try.prog) u 24 3 i0 _ Try.underlying24 hi hz0 .i64 .i64 (n : Int) (n : Int) (by omega) (by omega) (by rw [hz2]; omega) (by omega)
  rw [hz1, Nat.mul_one] at h
  exact h

theorem refHashN_any (A : Option Addr) (n c : Nat) (l : List Int) (w : World) (hn : n = l.length) (hr : Ints w w.heap.size A l) (hl : l.length ≤ maxLen) :
    Calls Try.prog 40 #[.slice A n c] w fun e w' => e = .returned (.int .u32 (hashN l : Int)) ∧ w = w' :=
  (refHash_any A n c l w hn hr hl).mono fun _ _ ⟨he, hw⟩ => ⟨by rw [he, hashN_eq], hw⟩

def LayPost (ks : List (List Int)) (w : World) (e : Ending) (w' : World) : Prop :=
  ∃ g, e = .returned (.slice (some ⟨g, 0, none⟩) (sizeN ks.length) (sizeN ks.length)) ∧ w.heap.size ≤ g ∧ OwnI w' g (layI ks) ∧ Q w w'

theorem step_mod (h j N : Nat) (hN : 0 < N) : (h + (j + 1)) % N = if (h + j) % N + 1 = N then 0 else (h + j) % N + 1 := by
  have e := Nat.div_add_mod (h + j) N
  have hr : (h + j) % N < N := Nat.mod_lt _ hN
  split
  · rename_i h1
    rw [show h + (j + 1) = N * ((h + j) / N + 1) + 0 by rw [Nat.mul_add]; omega, Nat.mul_add_mod]; simp
  · rename_i h1
    rw [show h + (j + 1) = N * ((h + j) / N) + ((h + j) % N + 1) by omega, Nat.mul_add_mod, Nat.mod_eq_of_lt (by omega)]

theorem dist_mod {h j J N : Nat} (hj : j ≤ J) (hJ : J < N) : ((h + J) % N + N - (h + j) % N) % N = J - j := by
  have hr : (h + j) % N < N := Nat.mod_lt _ (by omega)
  have e : (h + J) % N = ((h + j) % N + (J - j)) % N := by
    rw [show h + J = (h + j) + (J - j) by omega, Nat.add_mod, Nat.mod_eq_of_lt (show J - j < N by omega)]
  by_cases hx : (h + j) % N + (J - j) < N
  · rw [e, Nat.mod_eq_of_lt hx, show (h + j) % N + (J - j) + N - (h + j) % N = (J - j) + N by omega, Nat.add_mod_right, Nat.mod_eq_of_lt (by omega)]
  · have e2 : ((h + j) % N + (J - j)) % N = (h + j) % N + (J - j) - N := by
      rw [Nat.mod_eq_sub_mod (by omega), Nat.mod_eq_of_lt (by omega)]
    rw [e, e2, show (h + j) % N + (J - j) - N + N - (h + j) % N = J - j by omega, Nat.mod_eq_of_lt (by omega)]

set_option maxRecDepth 100000 in
set_option maxHeartbeats 1000000 in
theorem refLay_any (A : Option Addr) (n c : Nat) (ks : List (List Int)) (w : World) (hn : n = ks.length) (hk : Keys w w.heap.size A ks) (hl : ks.length ≤ 10000) (hs : ∀ k ∈ ks, k.length ≤ maxLen) :
    Calls Try.prog 16 #[.slice A n c] w (LayPost ks w) := by
  subst hn
  have hN := sizeN_le ks.length
  have hG := sizeN_gt ks.length
  have hmk := make_ints (sizeN ks.length) (by omega)
  have HM := Lib.hid (OwnI.made w (sizeN ks.length) 3)
  obtain ⟨N, hNe⟩ : ∃ N, sizeN ks.length = N := ⟨_, rfl⟩
  have HI : Hid (layI ks = layF ks 0 (List.replicate N 0)) := by unfold Hid; rw [layI, hNe]
  unfold LayPost
  rw [hNe] at hmk HM hN hG ⊢
  have HE := Lib.hid hNe
  clear hNe
  go_enter Try.func16, Try.ntmps16
  go_wp2_with fail
  refine (refSize_any _ _ (by omega)).mono ?_
  rintro e w1 ⟨rfl, rfl⟩
  rw [HE.out]
  go_wp2_with fail
  clear hmk
  go_loopw [4] (fun i wr => ∃ (k : Nat) (sl : List Int), k ≤ ks.length ∧ i = .int .i64 k ∧ Hid (sl.length = N) ∧ Hid (nz sl ≤ k) ∧ Hid (layI ks = layF (ks.drop k) k sl) ∧ Hid (OwnI wr w.heap.size sl) ∧ Q w wr) (fun i _ => ks.length - (intOf i).toNat)
  case atStart => exact ⟨0, _, Nat.zero_le _, rfl, Lib.hid (by simp), Lib.hid (by rw [nz_replicate]; exact Nat.le_refl _), HI, HM, (Q.refl _).alloc _⟩
  case round =>
    obtain ⟨k, sl, hkl, rfl, HL, HZ, HF, HO, qr⟩ := hrel
    by_cases hlt : k < ks.length
    · obtain ⟨ad, rfl, hb, a, c1, hle, c0, hi⟩ := (hk.q (Nat.le_refl _) qr).at_ hlt
      have Hi := Lib.hid (hi.more qr.size)
      have Hs := Lib.hid (hs _ (List.getElem_mem hlt))
      have HS := Lib.hid (layF_at ks k sl hlt)
      obtain ⟨J, hJ, hz, hbf, hsk⟩ := free_way (hashN ks[k]) (show nz sl < sl.length by have := HZ.out; have := HL.out; omega)
      rw [HL.out] at hz hbf hsk hJ
      have HP : Hid (putSlot sl ks[k] k = sl.set ((hashN ks[k] + J) % N) ((k : Int) + 1)) := by unfold Hid putSlot slotOf; rw [hsk]; rfl
      obtain ⟨h, hh⟩ : ∃ h, hashN ks[k] = h := ⟨_, rfl⟩
      have hh2 := hashN_lt ks[k]
      rw [hh] at hz hbf HP hh2
      have Hh := Lib.hid hh
      have Hz := Lib.hid hz
      have Hbf := Lib.hid hbf
      clear hi hz hbf hsk hh hk hle
      go_wp2_with fail
      refine (refHashN_any _ _ _ _ _ rfl Hi.out Hs.out).mono ?_
      rintro e w2 ⟨rfl, rfl⟩
      rw [Hh.out]
      have hN0 : 0 < N := by omega
      go_wp2_with fail
      go_loopw [5] (fun at' w' => ∃ (j s : Nat), j ≤ J ∧ at' = .int .i64 s ∧ s < N ∧ Hid (s = (h + j) % N) ∧ w' = wr) (fun at' _ => ((h + J) % N + N - (intOf at').toNat) % N)
      case atStart => exact ⟨0, h % N, Nat.zero_le _, by rw [Int.natCast_emod], Nat.mod_lt _ hN0, Lib.hid rfl, rfl⟩
      case round =>
        obtain ⟨j, s, hj, rfl, hsN, Hs2, rfl⟩ := hrel
        have hsl : s < sl.length := by have := HL.out; omega
        have hc3 := (HO.out.at_ hsl).1
        have hf3 := (HO.out.at_ hsl).2
        by_cases hjJ : j < J
        · have hnz : (sl[s] != 0) = true := by
            have := Hbf.out j hjJ
            rw [← Hs2.out, List.getElem?_eq_getElem hsl] at this
            simpa using this
          have Hst := Lib.hid (step_mod h j N hN0)
          have Hd1 := Lib.hid (dist_mod (h := h) hj hJ)
          have Hd2 := Lib.hid (dist_mod (h := h) (show j + 1 ≤ J by omega) hJ)
          by_cases hw : s + 1 = N
          · have hw' : (s : Int) + 1 = (N : Int) := by omega
            have hw2 : ((s : Int) + 1 == (N : Int)) = true := by simpa using hw'
            have Hst' : Hid (0 = (h + (j + 1)) % N) := by unfold Hid; rw [Hst.out, ← Hs2.out, if_pos hw]
            have Hw := Lib.hid hw
            clear hw hw'
            go_wp2_with fail
            go_roundw
            case rel => exact ⟨j + 1, 0, by omega, rfl, hN0, Hst', trivial⟩
            case measure =>
              have e1 := Hd1.out; have e2 := Hd2.out
              rw [← Hs2.out] at e1; rw [← Hst'.out] at e2
              show ((h + J) % N + N - 0) % N < ((h + J) % N + N - s) % N
              omega
          · have hw2 : ((s : Int) + 1 == (N : Int)) = false := by simp; omega
            have Hst' : Hid (s + 1 = (h + (j + 1)) % N) := by unfold Hid; rw [Hst.out, ← Hs2.out, if_neg hw]
            go_wp2_with fail
            go_roundw
            case rel => exact ⟨j + 1, s + 1, by omega, by go_num, by omega, Hst', trivial⟩
            case measure =>
              have e1 := Hd1.out; have e2 := Hd2.out
              rw [← Hs2.out] at e1; rw [← Hst'.out] at e2
              have e3 : (intOf (Value.int .i64 ((s : Int) + 1))).toNat = s + 1 := by simp [intOf]
              rw [e3]
              show ((h + J) % N + N - (s + 1)) % N < ((h + J) % N + N - s) % N
              omega
        · obtain rfl : j = J := by omega
          have hnz : (sl[s] != 0) = false := by
            have := Hz.out
            rw [← Hs2.out, List.getElem?_eq_getElem hsl] at this
            simpa using this
          have HP' : Hid (putSlot sl ks[k] k = sl.set s ((k : Int) + 1)) := by unfold Hid; rw [HP.out, ← Hs2.out]
          have Hsl := Lib.hid hsl
          go_wp2_with fail
          go_roundw
          case rel => exact ⟨k + 1, sl.set s ((k : Int) + 1), by omega, by go_num, Lib.hid (by rw [List.length_set]; exact HL.out), Lib.hid (by have := nz_set sl s ((k : Int) + 1); have := HZ.out; omega), Lib.hid (by rw [HF.out, HS.out, HP'.out]), Lib.hid (HO.out.set Hsl.out _), qr.setCell (p := ⟨w.heap.size, s, none⟩) (Nat.le_refl _) _⟩
          case measure => simp [intOf]; omega
    · have HS := Lib.hid (layF_end ks k sl (by omega))
      go_wp2_with fail
      go_ret
      exact ⟨w.heap.size, rfl, Nat.le_refl _, by rw [HF.out, HS.out]; exact HO.out, qr⟩
end Go.Proofs.Yteccgjhnifdcfaa.Hs

namespace Go.Proofs.Yteccgjhnifdcfaa.Kit
open Go.RowKit

/-- the cells that a slice value reads -/
def Src (w : World) (A : Option Addr) (cs : List Value) : Prop := 0 < cs.length → ∃ ad, A = some ad ∧ ∀ j v, cs[j]? = some v → w.cell? (ad.add j) = some v
theorem Src.keep {w w' : World} {A : Option Addr} {cs : List Value} {B : Nat} (h : Src w A cs) (hb : Below B w w') (hlt : ∀ ad, A = some ad → ad.block < B) : Src w' A cs := fun h0 => by
  obtain ⟨ad, e, hc⟩ := h h0
  refine ⟨ad, e, fun j v hv => (hb.cell ?_).trans (hc j v hv)⟩
  have : (ad.add j).block = ad.block := by unfold Addr.add; split <;> rfl
  rw [this]; exact hlt ad e

section
variable {P : Program} (w : World)
theorem run_append_none (base : Nat) (t ty e : TypeId) (i : TypeInfo) (size : Nat) (ht : P.underlying t = some (.slice e)) (hi : P.info? e = some i)
    (v : Value) (n : Nat) (xs : List Value) (hown : w.ownsRow base e size v n xs) (c : Nat) : (Builtin.append_ #[t, t] ty #[v, .slice none 0 c]).run P w = .ok v w := by
  obtain ⟨_, ⟨rfl, rfl⟩ | ⟨g, cap, cur, rfl, _, _, hnc, _⟩⟩ := hown
  · simp [Builtin.append_, run_underlying ht, sizeOf, typeInfo, hi, Builtin.lenOf, Builtin.firstCells]
  · simp [Builtin.append_, run_underlying ht, sizeOf, typeInfo, hi, Builtin.lenOf, Builtin.firstCells, hnc, storeCells]
theorem run_append_src (base : Nat) (t ty e : TypeId) (i : TypeInfo) (z : Value) (size bytes : Nat) (ht : P.underlying t = some (.slice e)) (hi : P.info? e = some i) (hz : i.zero = some z)
    (hsize : i.size = size) (hby : i.bytes = bytes) (hzs : z.cells.size = size) (hsz : 0 < size)
    (v : Value) (n : Nat) (xs : List Value) (hown : w.ownsRow base e size v n xs)
    (A : Option Addr) (m c : Nat) (cs : List Value) (hl : cs.length = m * size) (hc : Src w A cs) (h1 : ∀ u ∈ cs, u.oneCell' = true)
    (h63 : n + m ≤ maxLen) (hbytes : (n + m) * bytes ≤ 140737488355328) (hbase : base ≤ w.heap.size) :
    ∃ v' w', (Builtin.append_ #[t, t] ty #[v, .slice A m c]).run P w = .ok v' w' ∧ w'.ownsRow base e size v' (n + m) (xs ++ cs) ∧ w.grownBy w' v.ownBlock ∧
      (v'.ownBlock = v.ownBlock ∨ v'.ownBlock = some w.heap.size) := by
  cases A with
  | none =>
    have h0 : ¬ 0 < cs.length := fun h => by obtain ⟨ad, e, _⟩ := hc h; cases e
    obtain rfl : cs = [] := List.eq_nil_of_length_eq_zero (by omega)
    have hm : m = 0 := by
      rcases Nat.eq_zero_or_pos m with e | e
      · exact e
      · have := Nat.mul_pos e hsz
        simp at hl
        omega
    subst hm
    exact ⟨v, w, run_append_none w base t ty e i size ht hi v n xs hown c, by simpa using hown, World.grownBy.refl w _, .inl rfl⟩
  | some ad =>
    have hn : ∀ j u, cs[j]? = some u → w.cell? (ad.add j) = some u := fun j u hu => by
      have hj := (List.getElem?_eq_some_iff.1 hu).1
      obtain ⟨ad', e, h⟩ := hc (by omega)
      injection e with e
      subst e
      exact h j u hu
    obtain ⟨v', w', hr, h2, h3, _, h5⟩ := run_append_own_at (P := P) w base t ty e i z size bytes ht hi hz hsize hby hzs hsz v n xs hown ad m c cs hl hn h1 h63 hbytes hbase
    exact ⟨v', w', hr, h2, h3, h5⟩
theorem wp_append_src {o : Oper} {a : Act} {K : Act → World → Prop} {R : Exit → Act → World → Prop} (s x : Operand) (t : TypeId)
    (ho : o.op = .call { callee := .builtin .append, args := #[s, x], argTypes := #[t, t] })
    (base : Nat) (e : TypeId) (i : TypeInfo) (z : Value) (size bytes : Nat) (ht : P.underlying t = some (.slice e)) (hi : P.info? e = some i) (hz : i.zero = some z)
    (hsize : i.size = size) (hby : i.bytes = bytes) (hzs : z.cells.size = size) (hsz : 0 < size)
    (v : Value) (n : Nat) (xs : List Value) (hs : a.eval s = v) (hown : w.ownsRow base e size v n xs)
    (A : Option Addr) (m c : Nat) (cs : List Value) (hx : a.eval x = .slice A m c) (hl : cs.length = m * size) (hc : Src w A cs) (h1 : ∀ u ∈ cs, u.oneCell' = true)
    (h63 : n + m ≤ maxLen) (hbytes : (n + m) * bytes ≤ 140737488355328) (hbase : base ≤ w.heap.size)
    (h : ∀ v' w', w'.ownsRow base e size v' (n + m) (xs ++ cs) → w.grownBy w' v.ownBlock → (v'.ownBlock = v.ownBlock ∨ v'.ownBlock = some w.heap.size) → K (a.put o.dst v') w') : o.wp P a w K R := by
  obtain ⟨v', w', hrun, h2, h3, h4⟩ := run_append_src (P := P) w base t o.type e i z size bytes ht hi hz hsize hby hzs hsz v n xs hown A m c cs hl hc h1 h63 hbytes hbase
  unfold Oper.wp execOp
  simp only [ho, resolve, invoke, builtin, Sem.run_bind, Sem.run_pure, Result.andThen_ok, List.map_toArray, List.map_cons, List.map_nil, hs, hx, hrun]
  exact h v' w' h2 h3 h4
theorem wpList_append_src {ops : Array Oper} {rest : List Oper} {o : Oper} {a : Act} {R : Exit → Act → World → Prop} (hgd : o.guard = none) (s x : Operand) (t : TypeId)
    (ho : o.op = .call { callee := .builtin .append, args := #[s, x], argTypes := #[t, t] })
    (base : Nat) (e : TypeId) (i : TypeInfo) (z : Value) (size bytes : Nat) (ht : P.underlying t = some (.slice e)) (hi : P.info? e = some i) (hz : i.zero = some z)
    (hsize : i.size = size) (hby : i.bytes = bytes) (hzs : z.cells.size = size) (hsz : 0 < size)
    (v : Value) (n : Nat) (xs : List Value) (hs : a.eval s = v) (hown : w.ownsRow base e size v n xs)
    (A : Option Addr) (m c : Nat) (cs : List Value) (hx : a.eval x = .slice A m c) (hl : cs.length = m * size) (hc : Src w A cs) (h1 : ∀ u ∈ cs, u.oneCell' = true)
    (h63 : n + m ≤ maxLen) (hbytes : (n + m) * bytes ≤ 140737488355328) (hbase : base ≤ w.heap.size)
    (h : ∀ v' w', w'.ownsRow base e size v' (n + m) (xs ++ cs) → w.grownBy w' v.ownBlock → (v'.ownBlock = v.ownBlock ∨ v'.ownBlock = some w.heap.size) → wpList P ops R rest (a.put o.dst v') w') : wpList P ops R (o :: rest) a w :=
  wpList_plain hgd fun _ hK => wp_append_src w s x t ho base e i z size bytes ht hi hz hsize hby hzs hsz v n xs hs hown A m c cs hx hl hc h1 h63 hbytes hbase fun v' w' h2 h3 h4 => hK _ _ (h v' w' h2 h3 h4)
end

/-- a block of no cells, made by the call, is an empty row of its own -/
theorem own_empty {w : World} {base g : Nat} {e : TypeId} {size : Nat} (hb : base ≤ g) (hg : w.heap[g]? = some (.cells #[] e (0, 0))) : w.ownsRow base e size (.slice (some ⟨g, 0, none⟩) 0 0) 0 [] :=
  ⟨by simp, .inr ⟨g, 0, #[], rfl, hb, hg, Nat.le_refl _, Nat.zero_le _, by simp, by simp⟩⟩
theorem heap_two_old (W : World) (a b : Obj) : ((W.alloc a).alloc b).heap[W.heap.size]? = some a := (Below.heap_alloc _ _ _ (by simp)).trans (heap_alloc_new W a)
theorem heap_two_new (W : World) (a b : Obj) : ((W.alloc a).alloc b).heap[W.heap.size + 1]? = some b := by simpa using heap_alloc_new (W.alloc a) b
/-- the cells of a block that is known whole -/
theorem src_block {w : World} {g : Nat} {cs : Array Value} {t : TypeId} {fr : Nat × Nat} (hg : w.heap[g]? = some (.cells cs t fr)) : Src w (some ⟨g, 0, none⟩) cs.toList :=
  fun _ => ⟨_, rfl, World.news_of_block hg⟩
end Go.Proofs.Yteccgjhnifdcfaa.Kit

namespace Go.Proofs.Yteccgjhnifdcfaa.Hs
open Go.RowKit Kit

/-- a slice value that reads these cells, below block B -/
def SrcB (w : World) (B : Nat) (A : Option Addr) (cs : List Value) : Prop := 0 < cs.length → ∃ ad, A = some ad ∧ ad.block < B ∧ ∀ j v, cs[j]? = some v → w.cell? (ad.add j) = some v
theorem SrcB.keep {w w' : World} {B : Nat} {A : Option Addr} {l : List Value} (h : SrcB w B A l) (hb : Below B w w') : SrcB w' B A l := fun h0 => by
  obtain ⟨ad, e, hlt, hc⟩ := h h0
  exact ⟨ad, e, hlt, fun i s hs => (hb.cell (by rw [add_block]; exact hlt)).trans (hc i s hs)⟩
theorem SrcB.src {w : World} {B : Nat} {A : Option Addr} {l : List Value} (h : SrcB w B A l) : Src w A l := fun h0 => by
  obtain ⟨ad, e, _, hc⟩ := h h0
  exact ⟨ad, e, hc⟩
theorem SrcB.more {w : World} {B B' : Nat} {A : Option Addr} {l : List Value} (h : SrcB w B A l) (hB : B ≤ B') : SrcB w B' A l := fun h0 => by
  obtain ⟨ad, e, hlt, hc⟩ := h h0
  exact ⟨ad, e, by omega, hc⟩
theorem sliceInfo : (Try.prog.info? 24).map (fun i => (i.zero, i.size, i.bytes)) = some (some (.slice none 0 0), 1, 24) := by kernel_rfl
def GrowPost (E : TypeId) (w : World) (e : Ending) (w' : World) : Prop := ∃ v, e = .returned v ∧ w'.ownsRow w.heap.size E 1 v 0 [] ∧ Q w w'
def ClonePost (sl : List Int) (w : World) (e : Ending) (w' : World) : Prop :=
  ∃ A c, e = .returned (.slice A sl.length c) ∧ (0 < sl.length → ∃ g, A = some ⟨g, 0, none⟩ ∧ w.heap.size ≤ g ∧ OwnI w' g sl) ∧ Q w w'
def cellsI (sl : List Int) : List Value := sl.map (Value.int .i64)
theorem cellsI_get {sl : List Int} {j : Nat} {v : Value} (h : (cellsI sl)[j]? = some v) : ∃ x, sl[j]? = some x ∧ v = .int .i64 x := by
  unfold cellsI at h
  rw [List.getElem?_map, Option.map_eq_some_iff] at h
  obtain ⟨x, h1, h2⟩ := h
  exact ⟨x, h1, h2.symm⟩
theorem cellsI_one (sl : List Int) : ∀ u ∈ cellsI sl, u.oneCell' = true := fun u hu => by
  unfold cellsI at hu
  rw [List.mem_map] at hu
  obtain ⟨x, _, rfl⟩ := hu
  rfl
theorem Ints.srcB {w : World} {B : Nat} {A : Option Addr} {sl : List Int} (h : Ints w B A sl) : SrcB w B A (cellsI sl) := fun h0 => by
  obtain ⟨ad, e, hlt, hc⟩ := h (by simpa [cellsI] using h0)
  refine ⟨ad, e, hlt, fun j v hv => ?_⟩
  obtain ⟨x, hx, rfl⟩ := cellsI_get hv
  exact hc j x hx
theorem OwnI.of_own {w : World} {base g n cap : Nat} {e : TypeId} {sl : List Int} (h : w.ownsRow base e 1 (.slice (some ⟨g, 0, none⟩) n cap) n (cellsI sl)) : OwnI w g sl := by
  refine ⟨(h.lt g rfl).2, fun i x hx => ⟨?_, h.frozenAt i⟩⟩
  have := h.cells (g := g) rfl i (.int .i64 x) (by unfold cellsI; rw [List.getElem?_map, hx]; rfl)
  rwa [add_zero_head] at this

set_option maxRecDepth 100000 in
set_option maxHeartbeats 1000000 in
theorem clone_any (A : Option Addr) (n c : Nat) (sl : List Int) (w : World) (hn : n = sl.length) (hr : Ints w w.heap.size A sl) (hl : sl.length ≤ 100000) :
    Calls Try.prog 85 #[.slice A n c] w (ClonePost sl w) := by
  subst hn
  have heq := fun u => Lib.run_eql_slice_nil (P := Try.prog) u 24 3 A sl.length c 0 0 Try.underlying24
  cases A with
  | none =>
    have e : sl = [] := by
      rcases Nat.eq_zero_or_pos sl.length with h | h
      · exact List.eq_nil_of_length_eq_zero h
      · obtain ⟨_, e, _⟩ := hr h; cases e
    subst e
    have heq' : ∀ u, (binOp .eql 24 (.slice none 0 c) (.slice none 0 0)).run Try.prog u = .ok (.bool true) u := heq
    clear heq hr hl
    go_enter Try.func85, Try.ntmps85
    go_wp2_with fail
    go_ret
    exact ⟨none, 0, rfl, fun h => by simp at h, Q.refl _⟩
  | some ad =>
    have heq' : ∀ u, (binOp .eql 24 (.slice (some ad) sl.length c) (.slice none 0 0)).run Try.prog u = .ok (.bool false) u := heq
    obtain ⟨i0, hi, hz0, hz1, hz2⟩ := info_parts intInfo
    have Hi := Lib.hid hi
    have Hz0 := Lib.hid hz0
    have Hz1 := Lib.hid hz1
    have Hz2 := Lib.hid hz2
    have Hs := Lib.hid (hr.srcB.keep ((Q.refl w).alloc (Obj.cells #[] 3)))
    have Ho := Lib.hid (own_empty (base := w.heap.size) (e := 3) (size := 1) (Nat.le_refl _) (heap_alloc_new w (Obj.cells #[] 3)))
    clear heq hi hz0 hz1 hz2 hr
    go_enter Try.func85, Try.ntmps85
    go_wp2_with (at_builtin; refine wpList_append_src _ rfl (.tmp 5) (.tmp 6) _ rfl w.heap.size 3 i0 _ 1 8 Try.underlying24 Hi.out Hz0.out Hz1.out Hz2.out rfl (by omega) (.slice (some ⟨w.heap.size, 0, none⟩) 0 0) 0 [] rfl Ho.out (some ad) sl.length c (cellsI sl) rfl (by simp [cellsI]) Hs.out.src (cellsI_one sl) (by unfold maxLen; omega) (by omega) (by simp) ?_; intro v' w' own' gr' _)
    have q2 : Q w w' := ((Q.refl w).alloc (Obj.cells #[] 3)).grown gr' (by simp) (by simp [Value.ownBlock])
    rw [Nat.zero_add, List.nil_append] at own'
    have Ho' := Lib.hid own'
    clear own' gr'
    go_wp2_with fail
    go_ret
    have own' := Ho'.out
    have own2 := own'
    obtain ⟨_, ⟨rfl, hx⟩ | ⟨g, cap, cur, rfl, hg, _⟩⟩ := own'
    · have e : sl.length = 0 := hx
      exact ⟨none, 0, by rw [e]; rfl, fun h => by omega, q2⟩
    · exact ⟨_, cap, rfl, fun _ => ⟨g, rfl, hg, OwnI.of_own own2⟩, q2⟩
end Go.Proofs.Yteccgjhnifdcfaa.Hs

namespace Go.Proofs.Yteccgjhnifdcfaa.Hs
open Go.RowKit Kit

/-- the values of a row's cells -/
theorem Keys.vals {w : World} {B : Nat} {A : Option Addr} {ks : List (List Int)} (h : Keys w B A ks) :
    ∃ vs : List Value, vs.length = ks.length ∧ SrcB w B A vs ∧ ∀ (i : Nat) (k : List Int), ks[i]? = some k → ∃ a c, k.length ≤ c ∧ vs[i]? = some (Value.slice a k.length c) ∧ Ints w B a k := by
  rcases Nat.eq_zero_or_pos ks.length with h0 | h0
  · obtain rfl := List.eq_nil_of_length_eq_zero h0
    exact ⟨[], rfl, fun h => by simp at h, fun i k hk => by simp at hk⟩
  · obtain ⟨ad, e, hlt, hc⟩ := h h0
    have hv : ∀ (i : Nat) (k : List Int), ks[i]? = some k → ∃ a c, k.length ≤ c ∧ ((List.range ks.length).map fun i => (w.cell? (ad.add i)).getD undef)[i]? = some (Value.slice a k.length c) ∧ w.cell? (ad.add i) = some (Value.slice a k.length c) ∧ Ints w B a k := fun i k hk => by
      obtain ⟨a, c, hle, c0, hi⟩ := hc i k hk
      have hil := (List.getElem?_eq_some_iff.1 hk).1
      exact ⟨a, c, hle, by simp [hil, c0], c0, hi⟩
    refine ⟨(List.range ks.length).map fun i => (w.cell? (ad.add i)).getD undef, by simp, fun _ => ⟨ad, e, hlt, fun j v hj => ?_⟩, fun i k hk => ?_⟩
    · have hjl : j < ks.length := by have := (List.getElem?_eq_some_iff.1 hj).1; simpa using this
      obtain ⟨a, c, _, h1, h2, _⟩ := hv j ks[j] (List.getElem?_eq_getElem hjl)
      rw [h1] at hj
      rw [h2, hj]
    · obtain ⟨a, c, hle, h1, _, h3⟩ := hv i k hk
      exact ⟨a, c, hle, h1, h3⟩
theorem vals_one {w : World} {B : Nat} {ks : List (List Int)} {vs : List Value} (hl : vs.length = ks.length) (h : ∀ (i : Nat) (k : List Int), ks[i]? = some k → ∃ a c, k.length ≤ c ∧ vs[i]? = some (Value.slice a k.length c) ∧ Ints w B a k) : ∀ u ∈ vs, u.oneCell' = true := fun u hu => by
  obtain ⟨i, hi, rfl⟩ := List.getElem_of_mem hu
  obtain ⟨a, c, _, e, _⟩ := h i ks[i] (List.getElem?_eq_getElem (by omega))
  rw [List.getElem?_eq_getElem hi] at e
  injection e with e
  rw [e]
  rfl

def cutAt (A : Option Addr) (c n : Nat) : Option Addr := if c = n then A else A.map (·.add n)
theorem mem_len {ks : List (List Int)} {k : List Int} (h : k ∈ ks) : k.length ≤ ks.flatten.length := by
  induction ks with
  | nil => cases h
  | cons x l ih =>
    rw [List.flatten_cons, List.length_append]
    rcases List.mem_cons.1 h with rfl | h
    · omega
    · have := ih h; omega
theorem slice_l (A : Option Addr) (n c l : Nat) (h : l ≤ n) (u : World) : (Instr.slice 24 (.slice A n c) (some (.int .i64 (l : Int))) none none).run Try.prog u = .ok (.slice (cutAt A c l) (n - l) (c - l)) u := by
  obtain ⟨i0, hi, hz0, hz1, hz2⟩ := info_parts intInfo
  simp [Instr.slice, run_underlying Try.underlying24, Instr.sliceBounds, Instr.sliceBound, asIntOf, sizeOf, typeInfo, hi, hz1, h, cutAt]

end Go.Proofs.Yteccgjhnifdcfaa.Hs

namespace Go.Proofs.Yteccgjhnifdcfaa.Hs
open Go.RowKit Kit

end Go.Proofs.Yteccgjhnifdcfaa.Hs

namespace Go.Proofs.Yteccgjhnifdcfaa.Hs
open Go.RowKit Kit

end Go.Proofs.Yteccgjhnifdcfaa.Hs

namespace Go.Proofs.Yteccgjhnifdcfaa.Hs
open Go.RowKit Kit

/-- where a key stands in a row, from i on; -1 -/
def atF (key : List Int) : List (List Int) → Nat → Int
  | [], _ => -1
  | k :: l, i => if eqL k key then (i : Int) else atF key l (i + 1)
def atI (ks : List (List Int)) (key : List Int) : Int := atF key ks 0
theorem atF_at (key : List Int) (ks : List (List Int)) (i : Nat) (h : i < ks.length) : atF key (ks.drop i) i = if eqL ks[i] key then (i : Int) else atF key (ks.drop (i + 1)) (i + 1) := by
  rw [List.drop_eq_getElem_cons h]; rfl
theorem atF_end (key : List Int) (ks : List (List Int)) (i : Nat) (h : ks.length ≤ i) : atF key (ks.drop i) i = -1 := by
  rw [List.drop_eq_nil_of_le h]; rfl
theorem atF_spec (key : List Int) : ∀ (ks : List (List Int)) (k : Nat), (atF key ks k = -1 ∧ ∀ (i : Nat) (x : List Int), ks[i]? = some x → x ≠ key) ∨ ∃ i : Nat, ks[i]? = some key ∧ atF key ks k = ((k + i : Nat) : Int) ∧ ∀ (j : Nat) (x : List Int), j < i → ks[j]? = some x → x ≠ key
  | [], _ => .inl ⟨rfl, fun i x h => by simp at h⟩
  | y :: l, k => by
    rw [atF]
    cases he : eqL y key
    · have hne : y ≠ key := fun e => by rw [(eqL_iff y key).2 e] at he; cases he
      simp only [Bool.false_eq_true, if_false]
      rcases atF_spec key l (k + 1) with ⟨h1, h2⟩ | ⟨i, h1, h2, h3⟩
      · refine .inl ⟨h1, fun i x hx => ?_⟩
        cases i with
        | zero => obtain rfl : y = x := by simpa using hx
                  exact hne
        | succ i => exact h2 i x (by simpa using hx)
      · refine .inr ⟨i + 1, by simpa using h1, by rw [h2]; congr 1; omega, fun j x hj hx => ?_⟩
        cases j with
        | zero => obtain rfl : y = x := by simpa using hx
                  exact hne
        | succ j => exact h3 j x (by omega) (by simpa using hx)
    · rw [if_pos rfl]
      exact .inr ⟨0, by simp [(eqL_iff y key).1 he], by simp, fun j x hj => by omega⟩
/-- none of a row's keys is the same as another -/
def Dist (ks : List (List Int)) : Prop := ∀ (i j : Nat) (x : List Int), ks[i]? = some x → ks[j]? = some x → i = j
theorem atI_some {ks : List (List Int)} {key : List Int} {i : Nat} (hd : Dist ks) (h : ks[i]? = some key) : atI ks key = i := by
  rcases atF_spec key ks 0 with ⟨_, h2⟩ | ⟨j, h1, h2, _⟩
  · exact absurd rfl (h2 i key h)
  · unfold atI; rw [h2, hd i j key h h1]; omega
end Go.Proofs.Yteccgjhnifdcfaa.Hs

namespace Go.Proofs.Yteccgjhnifdcfaa.Hs
open Go.RowKit Kit

set_option maxRecDepth 100000 in
set_option maxHeartbeats 400000 in
theorem refInts_any (A B : Option Addr) (n c n' c' : Nat) (l m : List Int) (w : World) (hn : n = l.length) (hn' : n' = m.length) (hr : Ints w w.heap.size A l) (hr' : Ints w w.heap.size B m) (hl : l.length ≤ maxLen) :
    Calls Try.prog 11 #[.slice A n c, .slice B n' c'] w fun e w' => e = .returned (.bool (eqL l m)) ∧ ∃ d, w' = w.drewN d := by
  subst hn
  subst hn'
  unfold maxLen at hl
  by_cases hlen : l.length = m.length
  · have HE := Lib.hid hlen
    have hne : ((l.length : Int) != (m.length : Int)) = false := by simp [hlen]
    clear hlen
    go_enter Try.func11, Try.ntmps11
    go_wp2_with fail
    go_loopw [5] (fun i wr => ∃ k : Nat, k ≤ l.length ∧ i = .int .i64 k ∧ Hid (eqL l m = eqL (l.drop k) (m.drop k)) ∧ ∃ d, wr = w.drewN d) (fun i _ => l.length - (intOf i).toNat)
    case atStart => exact ⟨0, Nat.zero_le _, rfl, Lib.hid (by simp), 0, rfl⟩
    case round =>
      obtain ⟨k, hk, rfl, HF, d, rfl⟩ := hrel
      by_cases hlt : k < l.length
      · have hlt' : k < m.length := by have := HE.out; omega
        obtain ⟨ad, rfl, hb, c0⟩ := hr.at_ hlt
        obtain ⟨ad', rfl, hb', c0'⟩ := hr'.at_ hlt'
        have HS := Lib.hid (eqL_at l m k hlt hlt')
        clear hr hr'
        cases he : (l[k] == m[k])
        · have HS' : Hid (eqL (l.drop k) (m.drop k) = false) := by have := HS.out; rw [he] at this; exact this
          have he' : (l[k] != m[k]) = true := by simpa using he
          clear he
          go_wp2_with fail
          go_region
          all_goals go_wp2_with fail
          all_goals go_ret
          all_goals exact ⟨by rw [HF.out, HS'.out]; rfl, d + 1, rfl⟩
        · have HS' : Hid (eqL (l.drop k) (m.drop k) = eqL (l.drop (k + 1)) (m.drop (k + 1))) := by have := HS.out; rw [he] at this; exact this
          have he' : (l[k] != m[k]) = false := by simpa using he
          clear he
          go_wp2_with fail
          go_region
          all_goals go_wp2_with fail
          all_goals go_roundw
          case rel => exact ⟨k + 1, by omega, by go_num, Lib.hid (HF.out.trans HS'.out), d + 1, rfl⟩
          case measure => simp [intOf]; omega
      · have HS := Lib.hid (eqL_end l m k (by omega) (by have := HE.out; omega))
        go_wp2_with fail
        go_ret
        exact ⟨by rw [HF.out, HS.out]; rfl, d, rfl⟩
  · have hne : ((l.length : Int) != (m.length : Int)) = true := by simp; omega
    have HS := Lib.hid (eqL_len hlen)
    go_enter Try.func11, Try.ntmps11
    go_wp2_with fail
    go_ret
    exact ⟨by rw [HS.out]; rfl, 0, rfl⟩

theorem drewN_add' (w : World) (a b : Nat) : (w.drewN a).drewN b = w.drewN (a + b) := by simp [World.drewN, Nat.add_assoc]

set_option maxRecDepth 100000 in
set_option maxHeartbeats 1000000 in
theorem refAt_any (A E : Option Addr) (n c ke ce : Nat) (ks : List (List Int)) (key : List Int) (w : World) (hn : n = ks.length) (hke : ke = key.length) (hr : Keys w w.heap.size A ks) (he : Ints w w.heap.size E key) (hl : ks.length ≤ maxLen) (hs : ∀ k ∈ ks, k.length ≤ maxLen) :
    Calls Try.prog 38 #[.slice A n c, .slice E ke ce] w fun e w' => e = .returned (.int .i64 (atI ks key)) ∧ ∃ d, w' = w.drewN d := by
  subst hn
  subst hke
  unfold maxLen at hl
  go_enter Try.func38, Try.ntmps38
  go_wp2_with fail
  go_loopw [5] (fun i wr => ∃ k : Nat, k ≤ ks.length ∧ i = .int .i64 k ∧ Hid (atI ks key = atF key (ks.drop k) k) ∧ ∃ d, wr = w.drewN d) (fun i _ => ks.length - (intOf i).toNat)
  case atStart => exact ⟨0, Nat.zero_le _, rfl, Lib.hid rfl, 0, rfl⟩
  case round =>
    obtain ⟨k, hk, rfl, HF, d, rfl⟩ := hrel
    by_cases hlt : k < ks.length
    · obtain ⟨ad, rfl, hb, a, c1, _, c0, hi⟩ := hr.at_ hlt
      have Hi := Lib.hid hi
      have HS := Lib.hid (atF_at key ks k hlt)
      have Hm := Lib.hid (hs _ (List.getElem_mem hlt))
      have j0 : (0 : Int) ≤ (k : Int) := Int.natCast_nonneg _
      have j1 : (k : Int) < (ks.length : Int) := by omega
      clear hi
      cases heq : eqL ks[k] key
      · have HS' : Hid (atF key (ks.drop k) k = atF key (ks.drop (k + 1)) (k + 1)) := by have := HS.out; rw [heq] at this; exact this
        have Hq := Lib.hid heq
        clear heq HS
        go_wp2_with fail
        refine (refInts_any a E _ c1 _ ce ks[k] key _ rfl rfl (by exact Hi.out) (by exact he) Hm.out).mono ?_
        rintro e w' ⟨rfl, d', rfl⟩
        rw [Hq.out]
        go_wp2_with fail
        go_roundw
        case rel => exact ⟨k + 1, by omega, by go_num, Lib.hid (HF.out.trans HS'.out), d + d', rfl⟩
        case measure => simp [intOf]; omega
      · have HS' : Hid (atF key (ks.drop k) k = (k : Int)) := by have := HS.out; rw [heq] at this; exact this
        have Hq := Lib.hid heq
        clear heq HS
        go_wp2_with fail
        refine (refInts_any a E _ c1 _ ce ks[k] key _ rfl rfl (by exact Hi.out) (by exact he) Hm.out).mono ?_
        rintro e w' ⟨rfl, d', rfl⟩
        rw [Hq.out]
        go_wp2_with fail
        go_ret
        exact ⟨by rw [HF.out, HS'.out]; rfl, d + d', rfl⟩
    · have HS := Lib.hid (atF_end key ks k (by omega))
      go_wp2_with fail
      go_ret
      exact ⟨by rw [HF.out, HS.out]; rfl, d, rfl⟩
end Go.Proofs.Yteccgjhnifdcfaa.Hs

namespace Go.Proofs.Yteccgjhnifdcfaa.Hs
open Go.RowKit Kit

theorem Q.of_drewN {w w' : World} (h : ∃ d, w' = w.drewN d) : Q w w' := by obtain ⟨d, rfl⟩ := h; exact (Q.refl w).drewN d

def fewF (n : Nat) : List (List Int) → Nat
  | [] => n
  | k :: l => if n ≤ 2000 then fewF (n + 1 + k.length) l else n
def fewB (ks : List (List Int)) (m : Nat) : Bool := decide (fewF m ks ≤ 2000)
theorem fewF_at (n : Nat) (ks : List (List Int)) (i : Nat) (h : i < ks.length) (hn : n ≤ 2000) : fewF n (ks.drop i) = fewF (n + 1 + ks[i].length) (ks.drop (i + 1)) := by
  rw [List.drop_eq_getElem_cons h, fewF, if_pos hn]
theorem fewF_big (n : Nat) (ks : List (List Int)) (hn : ¬ n ≤ 2000) : fewF n ks = n := by
  cases ks with
  | nil => rfl
  | cons k l => rw [fewF, if_neg hn]
theorem fewF_end (n : Nat) (ks : List (List Int)) (i : Nat) (h : ks.length ≤ i) : fewF n (ks.drop i) = n := by
  rw [List.drop_eq_nil_of_le h]; rfl
theorem fewF_sum : ∀ (ks : List (List Int)) (n : Nat), fewF n ks ≤ 2000 → n + ks.length + ks.flatten.length ≤ 2000
  | [], n, h => by simpa [fewF] using h
  | k :: l, n, h => by
    rw [fewF] at h
    by_cases hn : n ≤ 2000
    · rw [if_pos hn] at h
      have := fewF_sum l _ h
      rw [List.length_cons, List.flatten_cons, List.length_append]; omega
    · rw [if_neg hn] at h; omega
theorem few_sum {ks : List (List Int)} {m : Nat} (h : fewB ks m = true) : m + ks.length + ks.flatten.length ≤ 2000 := fewF_sum ks m (of_decide_eq_true h)

set_option maxRecDepth 100000 in
set_option maxHeartbeats 1000000 in
theorem refFew_any (A S : Option Addr) (n c m d : Nat) (ks : List (List Int)) (w : World) (hn : n = ks.length) (hk : Keys w w.heap.size A ks) (hl : ks.length ≤ 1152921504606846976) (hs : ∀ k ∈ ks, k.length ≤ 1152921504606846976) (hm : m ≤ 1152921504606846976) :
    Calls Try.prog 19 #[.agg #[.slice A n c, .slice S m d]] w fun e w' => e = .returned (.bool (fewB ks m)) ∧ Q w w' := by
  subst hn
  have q0 := (Q.refl w).alloc (Obj.cells #[Value.slice A ks.length c, Value.slice S m d] 26)
  have Hk := Lib.hid (hk.q (Nat.le_refl _) q0)
  clear hk
  go_enter Try.func19, Try.ntmps19
  go_wp2_with fail
  have c0 : (w.alloc (Obj.cells #[Value.slice A ks.length c, Value.slice S m d] 26)).cell? ⟨w.heap.size, 0, none⟩ = some (.slice A ks.length c) := by simp
  generalize w.alloc (Obj.cells #[Value.slice A ks.length c, Value.slice S m d] 26) = W at *
  go_loopw [3, 4] (fun s i wr => ∃ (k a : Nat), k ≤ ks.length ∧ i = .int .i64 k ∧ s = .int .i64 a ∧ a ≤ 2305843009213693952 ∧ Hid (fewF m ks = fewF a (ks.drop k)) ∧ W = wr) (fun _ i _ => ks.length - (intOf i).toNat)
  case atStart => exact ⟨0, m, Nat.zero_le _, rfl, rfl, by omega, Lib.hid (by simp), rfl⟩
  case round =>
    obtain ⟨k, a, hk, rfl, rfl, ha, HF, rfl⟩ := hrel
    by_cases hlt : k < ks.length
    · by_cases h2 : a ≤ 2000
      · obtain ⟨ad, rfl, hb, a1, c1, _, k0, _⟩ := Hk.out.at_ hlt
        have HS := Lib.hid (fewF_at a ks k hlt h2)
        have hs1 := hs _ (List.getElem_mem hlt)
        go_wp2_with fail
        go_roundw
        case rel => exact ⟨k + 1, a + 1 + ks[k].length, by omega, by go_num, by go_num, by omega, Lib.hid (HF.out.trans HS.out), trivial⟩
        case measure => simp [intOf]; omega
      · have HS := Lib.hid (fewF_big a (ks.drop k) h2)
        have HR : Hid (fewB ks m = false) := by unfold Hid fewB; rw [HF.out, HS.out]; exact decide_eq_false h2
        go_wp2_with fail
        go_ret
        exact ⟨by rw [HR.out]; simp; omega, q0⟩
    · have HS := Lib.hid (fewF_end a ks k (by omega))
      have HR : Hid (fewB ks m = decide (a ≤ 2000)) := by unfold Hid fewB; rw [HF.out, HS.out]
      go_wp2_with fail
      go_ret
      exact ⟨by rw [HR.out]; simp; omega, q0⟩
end Go.Proofs.Yteccgjhnifdcfaa.Hs

namespace Go.Proofs.Yteccgjhnifdcfaa.Hs
open Go.RowKit Kit

end Go.Proofs.Yteccgjhnifdcfaa.Hs

namespace Go.Proofs.Yteccgjhnifdcfaa.Hs
open Go.RowKit Kit

end Go.Proofs.Yteccgjhnifdcfaa.Hs

namespace Go.Proofs.Yteccgjhnifdcfaa.Hs
open Go.RowKit Kit

def rdF (ks : List (List Int)) : List (List Int) → Nat → Bool
  | [], _ => true
  | k :: l, i => (atI ks k == (i : Int)) && rdF ks l (i + 1)
def rightB (ks : List (List Int)) (sl : List Int) : Bool := rdF ks ks 0 && eqL sl (layI ks)
theorem rdF_at (ks : List (List Int)) (i : Nat) (h : i < ks.length) : rdF ks (ks.drop i) i = ((atI ks ks[i] == (i : Int)) && rdF ks (ks.drop (i + 1)) (i + 1)) := by
  rw [List.drop_eq_getElem_cons h]; rfl
theorem rdF_end (ks : List (List Int)) (i : Nat) (h : ks.length ≤ i) : rdF ks (ks.drop i) i = true := by
  rw [List.drop_eq_nil_of_le h]; rfl
theorem rdF_get (ks : List (List Int)) : ∀ (l : List (List Int)) (k : Nat), rdF ks l k = true → ∀ (i : Nat) (x : List Int), l[i]? = some x → atI ks x = ((k + i : Nat) : Int)
  | [], _, _, i, x, hx => by simp at hx
  | y :: l, k, h, i, x, hx => by
    simp only [rdF, Bool.and_eq_true, beq_iff_eq] at h
    cases i with
    | zero => obtain rfl : y = x := by simpa using hx
              rw [h.1]; rfl
    | succ i => rw [rdF_get ks l (k + 1) h.2 i x (by simpa using hx)]; congr 1; omega
theorem rdF_dist {ks : List (List Int)} (h : rdF ks ks 0 = true) : Dist ks := fun i j x hi hj => by
  have h1 := rdF_get ks ks 0 h i x hi
  have h2 := rdF_get ks ks 0 h j x hj
  omega
theorem rdF_of {ks : List (List Int)} (hd : Dist ks) : ∀ (l : List (List Int)) (k : Nat), (∀ (i : Nat) (x : List Int), l[i]? = some x → ks[k + i]? = some x) → rdF ks l k = true
  | [], _, _ => rfl
  | y :: l, k, h => by
    simp only [rdF, Bool.and_eq_true, beq_iff_eq]
    refine ⟨atI_some hd (by simpa using h 0 y rfl), rdF_of hd l (k + 1) fun i x hx => ?_⟩
    have := h (i + 1) x (by simpa using hx)
    rwa [show k + 1 + i = k + (i + 1) by omega]
theorem right_iff (ks : List (List Int)) (sl : List Int) : rightB ks sl = true ↔ Dist ks ∧ sl = layI ks := by
  unfold rightB
  rw [Bool.and_eq_true, eqL_iff]
  exact ⟨fun h => ⟨rdF_dist h.1, h.2⟩, fun h => ⟨rdF_of h.1 ks 0 fun i x hx => by simpa using hx, h.2⟩⟩

set_option maxRecDepth 100000 in
set_option maxHeartbeats 1000000 in
theorem refRight_any (A S : Option Addr) (n c m d : Nat) (ks : List (List Int)) (sl : List Int) (w : World) (hn : n = ks.length) (hm : m = sl.length) (hk : Keys w w.heap.size A ks) (hS : Ints w w.heap.size S sl) (hs : ∀ k ∈ ks, k.length ≤ maxLen) (hl : ks.length ≤ 5000) (hsl : sl.length ≤ maxLen) :
    Calls Try.prog 45 #[.agg #[.slice A n c, .slice S m d]] w fun e w' => e = .returned (.bool (rightB ks sl)) ∧ Q w w' := by
  subst hn
  subst hm
  have q0 := (Q.refl w).alloc (Obj.cells #[Value.slice A ks.length c, Value.slice S sl.length d] 26)
  have Hk := Lib.hid ((hk.q (Nat.le_refl _) q0).more q0.size)
  have HS := Lib.hid ((hS.q (Nat.le_refl _) q0).more q0.size)
  have Hs := Lib.hid hs
  clear hk hS hs
  go_enter Try.func45, Try.ntmps45
  go_wp2_with fail
  have k0 : (w.alloc (Obj.cells #[Value.slice A ks.length c, Value.slice S sl.length d] 26)).cell? ⟨w.heap.size, 0, none⟩ = some (.slice A ks.length c) := by simp
  have k1 : (w.alloc (Obj.cells #[Value.slice A ks.length c, Value.slice S sl.length d] 26)).cell? ⟨w.heap.size, 1, none⟩ = some (.slice S sl.length d) := by simp
  have hlt : w.heap.size < (w.alloc (Obj.cells #[Value.slice A ks.length c, Value.slice S sl.length d] 26)).heap.size := by simp
  generalize w.alloc (Obj.cells #[Value.slice A ks.length c, Value.slice S sl.length d] 26) = W0 at *
  go_loopw [3] (fun i wr => ∃ k : Nat, k ≤ ks.length ∧ i = .int .i64 k ∧ Hid (rdF ks ks 0 = rdF ks (ks.drop k) k) ∧ Hid (∃ d, wr = W0.drewN d)) (fun i _ => ks.length - (intOf i).toNat)
  case atStart => exact ⟨0, Nat.zero_le _, rfl, Lib.hid rfl, Lib.hid ⟨0, rfl⟩⟩
  case round =>
    obtain ⟨k, hkl, rfl, HF, HD⟩ := hrel
    have k0r : wr.cell? ⟨w.heap.size, 0, none⟩ = some (.slice A ks.length c) := by obtain ⟨d, rfl⟩ := HD.out; exact k0
    have k1r : wr.cell? ⟨w.heap.size, 1, none⟩ = some (.slice S sl.length d) := by obtain ⟨d, rfl⟩ := HD.out; exact k1
    have Hkr : Hid (Keys wr wr.heap.size A ks) := by obtain ⟨d, rfl⟩ := HD.out; exact Hk.out
    have HSr : Hid (Ints wr wr.heap.size S sl) := by obtain ⟨d, rfl⟩ := HD.out; exact HS.out
    have qr : Q W0 wr := Q.of_drewN HD.out
    clear k0 k1 Hk HS
    by_cases hlt2 : k < ks.length
    · obtain ⟨ad, rfl, hb, a, c1, _, c0, hi⟩ := Hkr.out.at_ hlt2
      have HS2 := Lib.hid (rdF_at ks k hlt2)
      have C : Hid (∀ n, Calls Try.prog 38 #[.slice (some ad) ks.length c, .slice a ks[k].length c1] (wr.drewN n) fun e w' => e = .returned (.int .i64 (atI ks ks[k])) ∧ ∃ m', w' = (wr.drewN n).drewN m') := fun n =>
        refAt_any (some ad) a _ c _ c1 ks ks[k] (wr.drewN n) rfl rfl Hkr.out hi (by unfold maxLen; omega) Hs.out
      have j0 : (0 : Int) ≤ (k : Int) := Int.natCast_nonneg _
      have j1 : (k : Int) < (ks.length : Int) := by omega
      clear hi
      cases he : (atI ks ks[k] == (k : Int))
      · have hne : (atI ks ks[k] != (k : Int)) = true := by simpa using he
        have HR : Hid (rightB ks sl = false) := by unfold Hid rightB; rw [HF.out, HS2.out, he]; rfl
        clear he
        go_wp2_with fail
        go_quiet (first | (go_at_call 38; exact Calls.quiet_of (C.out _)))
        go_wp2_with fail
        go_ret
        exact ⟨by rw [HR.out]; rfl, (q0.trans qr).drewN _⟩
      · have hne : (atI ks ks[k] != (k : Int)) = false := by simpa using he
        have HR : Hid (rdF ks (ks.drop k) k = rdF ks (ks.drop (k + 1)) (k + 1)) := by unfold Hid; rw [HS2.out, he]; rfl
        clear he
        go_wp2_with fail
        go_quiet (first | (go_at_call 38; exact Calls.quiet_of (C.out _)))
        go_wp2_with fail
        go_roundw
        case rel => exact ⟨k + 1, by omega, by go_num, Lib.hid (HF.out.trans HR.out), Lib.hid (by obtain ⟨d, rfl⟩ := HD.out; exact ⟨_, drewN_add' _ _ _⟩)⟩
        case measure => simp [intOf]; omega
    · have HR : Hid (rightB ks sl = eqL sl (layI ks)) := by unfold Hid rightB; rw [HF.out, rdF_end ks k (by omega)]; rfl
      have hltr : w.heap.size < wr.heap.size := by have := qr.size; omega
      have HLl : Hid (sizeN ks.length = (layI ks).length) := Lib.hid (layI_length ks).symm
      go_wp2_with fail
      go_region_held3 (fun w' => w'.cell? ⟨w.heap.size, 0, none⟩ = some (.slice A ks.length c) ∧ w'.cell? ⟨w.heap.size, 1, none⟩ = some (.slice S sl.length d))
        (first
          | go_keep
          | exact ⟨(p1.cell (p := ⟨w.heap.size, 0, none⟩) hltr).trans k0r, (p1.cell (p := ⟨w.heap.size, 1, none⟩) hltr).trans k1r⟩
          | exact ⟨((p1.trans q2).cell (p := ⟨w.heap.size, 0, none⟩) hltr).trans k0r, ((p1.trans q2).cell (p := ⟨w.heap.size, 1, none⟩) hltr).trans k1r⟩)
        (first
          | (go_at_call 16; refine (refLay_any _ _ _ ks _ rfl (by exact Hkr.out) (by omega) Hs.out).mono ?_; rintro e w1 ⟨g, rfl, hg, hO, q1⟩; have HO := Lib.hid hO; clear hO; have p1 := (Q.refl wr).drew.trans q1)
          | (go_at_call 11; refine (refInts_any _ _ _ _ _ _ sl (layI ks) _ rfl HLl.out (by exact ((HSr.out.q (Nat.le_refl _) p1).more p1.size)) (by exact HO.out.ints) hsl).mono ?_; rintro e w2 ⟨rfl, hd2⟩; have q2 := Q.of_drewN hd2; clear hd2))
      go_wp2_with fail
      go_ret
      exact ⟨by rw [HR.out]; rfl, ((q0.trans qr).trans p1).trans q2⟩
end Go.Proofs.Yteccgjhnifdcfaa.Hs

namespace Go.Proofs.Yteccgjhnifdcfaa.Hs
open Go.ChangeShapes Go.WideShapes Go.RowKit Kit Go.Deep Go.Joins

theorem bytes_int : Try.prog.bytesOf 3 = 8 := by kernel_rfl
theorem bytes_ints : Try.prog.bytesOf 24 = 24 := by kernel_rfl
theorem cells_int : Try.prog.cellsOf 3 = 1 := by kernel_rfl
theorem cells_ints : Try.prog.cellsOf 24 = 1 := by kernel_rfl
theorem weights_all {H : Type} {P : Program} {e : TypeId} : ∀ {ds : List (DataW H)} {d : DataW H}, d ∈ ds → ∀ n ∈ d.weights P e, n ∈ DataW.weightsAll P e ds
  | x :: l, d, h, n, hn => by
    simp only [DataW.weightsAll, List.mem_append]
    rcases List.mem_cons.1 h with rfl | h
    · exact .inl hn
    · exact .inr (weights_all h n hn)

section
variable {H : Type} {enc : TypeId × Value → H} {W : World} {base : Nat}
set_option maxRecDepth 100000 in
theorem open_row_cells {fuel : Nat} {v : Value} {x : DataW H × List MemPlace} (h : DataW.trod enc Try.prog W 0 (fun _ => true) true fuel 24 [v] = some x) (hz : ∀ n ∈ x.1.weights Try.prog 24, n ≤ reachBytes) :
    ∃ A n c l, v = .slice A n c ∧ n = l.length ∧ n ≤ c ∧ Ints W W.heap.size A l ∧ l.length ≤ 1152921504606846976 := by
  rcases open_ints Try.underlying24 Try.underlying3 cells_int h with ⟨hcs, hx⟩ | ⟨a, len, cap, zs, hcs, _, hl, _, hlen, hx, hcell, _⟩
  · obtain rfl : v = .slice none 0 0 := by simpa using hcs
    exact ⟨none, 0, 0, [], rfl, rfl, Nat.le_refl _, fun h => absurd h (by simp), by simp⟩
  · obtain rfl : v = .slice (some a) len cap := by simpa using hcs
    simp only [if_true] at hlen
    have hw : (((lits .i64 (zs.take len) : List (DataW H))).length + ((lits .i64 (zs.drop len) : List (DataW H))).length) * Try.prog.bytesOf 3 ≤ reachBytes := by
      refine hz _ ?_
      rw [hx]
      simp [DataW.weights, Try.underlying24]
    rw [bytes_int] at hw
    have hll : (zs.take len).length = len := by rw [List.length_take, hlen]; omega
    refine ⟨_, _, _, zs.take len, rfl, hll.symm, hl, fun h0 => ⟨a, rfl, ?_, fun i y hy => ?_⟩, ?_⟩
    · have := hcell 0 (by omega)
      have := World.block_lt_of_cell? W _ this
      rwa [add_block] at this
    · have hi : i < len := by have := (List.getElem?_eq_some_iff.1 hy).1; omega
      rw [List.getElem?_take, if_pos hi] at hy
      rw [hcell i (by omega)]
      simp [hy]
    · simp [lits, reachBytes] at hw
      rw [hll]; omega
set_option maxRecDepth 100000 in
theorem open_rows_cells {fuel : Nat} {v : Value} {x : DataW H × List MemPlace} (h : DataW.trod enc Try.prog W 0 (fun _ => true) true fuel 23 [v] = some x) (hz : ∀ n ∈ x.1.weights Try.prog 23, n ≤ reachBytes) :
    ∃ A n c ks, v = .slice A n c ∧ n = ks.length ∧ Keys W W.heap.size A ks ∧ ks.length ≤ 1152921504606846976 ∧ ∀ k ∈ ks, k.length ≤ 1152921504606846976 := by
  rcases open_int_rows Try.underlying23 Try.underlying24 Try.underlying3 cells_ints cells_int h with ⟨hcs, hx⟩ | ⟨a, len, cap, A, L, C, Z, hcs, _, hl, _, hx, hi⟩
  · obtain rfl : v = .slice none 0 0 := by simpa using hcs
    exact ⟨none, 0, 0, [], rfl, rfl, fun h => absurd h (by simp), by simp, by simp⟩
  · obtain rfl : v = .slice (some a) len cap := by simpa using hcs
    have hwr : ∀ r, r < len → ∀ n ∈ (intRow .i64 (A r) (L r) (Z r) : DataW H).weights Try.prog 24, n ≤ reachBytes := fun r hr n hn => by
      refine hz _ ?_
      rw [hx]
      simp only [DataW.weights, Try.underlying23, List.mem_cons, List.mem_append]
      exact .inr (.inl (weights_all (List.mem_map.2 ⟨r, by simpa using hr, rfl⟩) n hn))
    have hlen : len ≤ 1152921504606846976 := by
      have := hz ((((List.range len).map fun r => (intRow .i64 (A r) (L r) (Z r) : DataW H)).length + ((List.range (cap - len)).map fun j => (intRow .i64 (A (len + j)) (L (len + j)) (Z (len + j)) : DataW H)).length) * Try.prog.bytesOf 24) (by
        rw [hx]
        simp only [DataW.weights, Try.underlying23]
        exact List.mem_cons_self ..)
      rw [bytes_ints] at this
      simp [reachBytes] at this
      omega
    have hL : ∀ r, r < len → L r ≤ 1152921504606846976 := fun r hr => by
      obtain ⟨_, h1, _, h3, _, h5, _⟩ := hi r (by omega)
      cases hA : A r with
      | none => have := h5 hA; omega
      | some a' =>
        have := hwr r hr (((lits .i64 ((Z r).take (L r)) : List (DataW H)).length + (lits .i64 ((Z r).drop (L r)) : List (DataW H)).length) * Try.prog.bytesOf 3) (by
          rw [hA]
          simp [intRow, DataW.weights, Try.underlying24])
        rw [bytes_int] at this
        simp [lits, reachBytes] at this
        omega
    have hT : ∀ r, r < len → ((Z r).take (L r)).length = L r := fun r hr => by
      obtain ⟨_, h1, _, h3, _⟩ := hi r (by omega)
      rw [List.length_take]; omega
    refine ⟨_, _, _, (List.range len).map fun r => (Z r).take (L r), rfl, by simp, fun h0 => ⟨a, rfl, ?_, fun i k hk => ?_⟩, by simpa using hlen, fun k hk => ?_⟩
    · have h0' : 0 < len := by simpa using h0
      have := (hi 0 (by omega)).1
      have := World.block_lt_of_cell? W _ this
      rwa [add_block] at this
    · have hil : i < len := by have := (List.getElem?_eq_some_iff.1 hk).1; simpa using this
      obtain rfl : (Z i).take (L i) = k := by simpa [hil] using hk
      obtain ⟨h0', h1, _, h3, _, h5, h6⟩ := hi i (by omega)
      rw [hT i hil]
      refine ⟨A i, C i, h1, h0', fun hp => ?_⟩
      rw [hT i hil] at hp
      cases hA : A i with
      | none => have := h5 hA; omega
      | some a' =>
        obtain ⟨_, hc⟩ := h6 a' hA
        refine ⟨a', rfl, ?_, fun j y hy => ?_⟩
        · have := World.block_lt_of_cell? W _ (hc 0 (by omega))
          rwa [add_block] at this
        · have hj : j < L i := by have := (List.getElem?_eq_some_iff.1 hy).1; rw [hT i hil] at this; exact this
          rw [List.getElem?_take, if_pos hj] at hy
          rw [hc j (by omega)]
          simp [hy]
    · obtain ⟨r, hr, rfl⟩ := List.mem_map.1 hk
      have hr' : r < len := by simpa using hr
      rw [hT r hr']
      exact hL r hr'
end
end Go.Proofs.Yteccgjhnifdcfaa.Hs

namespace Go.Proofs.Yteccgjhnifdcfaa.Hs
open Go.RowKit Kit

structure BoxT (W : World) (B : Nat) (a b : Value) : Prop where
  c0 : W.cell? ⟨B, 0, none⟩ = some a
  c1 : W.cell? ⟨B, 1, none⟩ = some b
  lt : B < W.heap.size
theorem BoxT.q {W W' : World} {B : Nat} {a b : Value} (h : BoxT W B a b) (q : Q W W') : BoxT W' B a b :=
  ⟨(q.cell (p := ⟨B, 0, none⟩) h.lt).trans h.c0, (q.cell (p := ⟨B, 1, none⟩) h.lt).trans h.c1, Nat.lt_of_lt_of_le h.lt q.size⟩
theorem BoxT.new (w : World) (a b : Value) (t : TypeId) : BoxT (w.alloc (.cells #[a, b] t)) w.heap.size a b := ⟨by simp, by simp, by simp⟩
end Go.Proofs.Yteccgjhnifdcfaa.Hs

namespace Go.Proofs.Yteccgjhnifdcfaa.Hs
open Go.RowKit Kit

end Go.Proofs.Yteccgjhnifdcfaa.Hs
