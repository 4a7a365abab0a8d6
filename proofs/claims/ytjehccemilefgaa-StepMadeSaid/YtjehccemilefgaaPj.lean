/-
  What the proofs lean on, part 10 of 16.
-/
import Derived.Test.YtjehccemilefgaaPi
import Derived.Maps.RangeWalk
import Derived.Maps.OwnOps
import Derived.Maps.OwnSet
import Derived.WideKeyPair
import Derived.Shelf.Small.Bits
import Derived.Shelf.Small.Wraps
import Derived.Shelf.Strconv.Itoa0
import Derived.Ground.Names2Prog
import Derived.Shelf.Slices.Clone
import Derived.Shelf.Slices.SearchI
import Derived.Ground.SlgnProg
import Derived.Shelf.SlicesE.Clone
import Derived.Shelf.SlSortCmp.NoneTotal
import Derived.Shelf.SlGeneric
import Derived.Ground.SlsfProg
import Derived.Test.YtjehccemilefgaaProg
namespace Go.Proofs.Ytjehccemilefgaa.St
open Go.RowKit Kit Rw Go.Maps Go.WideMaps
open Go.Proofs.Ytjehccemilefgaa.Tm (Wf)
theorem pairArr : ArrKey Try.prog 46 3 2 := ⟨Try.underlying46, by kernel_rfl, by kernel_rfl, by kernel_rfl⟩
theorem pairKeyed : Keyed Try.prog 46 := Keyed.of_law pairArr.law
theorem typesSome : ∃ m, Try.prog.types.size = m + 1 := ⟨Try.prog.types.size - 1, by have : 0 < Try.prog.types.size := of_decide_eq_true (by kernel_rfl); omega⟩
def keyL (z : PI) : Lit := .string (keyBytes [.int .i64 z.1, .int .i64 z.2])
def WfP (z : PI) : Prop := Wf z.1 ∧ Wf z.2
def pairV (z : PI) : Value := .agg #[.int .i64 z.1, .int .i64 z.2]
theorem key_pair {z : PI} (h : WfP z) : keyOf Try.prog 46 (pairV z) = some (keyL z) := keyOf_pair pairArr Try.underlying3 typesSome h.1.lit h.2.lit
theorem pairV_inj {a b : PI} (h : pairV a = pairV b) : a = b := by
  unfold pairV at h
  injection h with h
  have := congrArg Array.toList h
  simp at this
  exact Prod.ext this.1 this.2
theorem key_inj {a b : PI} (ha : WfP a) (hb : WfP b) (h : keyL a = keyL b) : a = b := pairV_inj (pairKeyed.inj (key_pair ha) (by rw [h]; exact key_pair hb))
theorem key_same {a b : PI} (ha : WfP a) (hb : WfP b) : (keyL a).sameKey (keyL b) = decide (a = b) := by
  by_cases h : a = b
  · subst h
    rw [decide_eq_true rfl]
    exact WideAt.sameKey_self (pairKeyed.key (key_pair ha))
  · rw [decide_eq_false h]
    cases hs : (keyL a).sameKey (keyL b)
    · rfl
    · exact absurd (key_inj ha hb (WideAt.sameKey_eq hs)) h
theorem wf_of_lit {n : Int} (h : (Lit.int .i64 n).wf = true) : Wf n := by
  have h2 : IntKind.min .i64 ≤ n ∧ n ≤ IntKind.max .i64 := by simpa [Lit.wf] using h
  have e1 : IntKind.min .i64 = -9223372036854775808 := by decide
  have e2 : IntKind.max .i64 = 9223372036854775807 := by decide
  unfold Wf
  omega
set_option maxRecDepth 100000 in
theorem key_inv {v : Value} {kl : Lit} (h : keyOf Try.prog 46 v = some kl) : ∃ z, WfP z ∧ v = pairV z ∧ kl = keyL z := by
  obtain ⟨m, hm⟩ := typesSome
  have hq := Try.underlying3
  have h0 := h
  unfold keyOf at h
  simp only [pairArr.hu] at h
  split at h
  · rename_i hf
    rw [Bool.and_eq_true] at hf
    obtain ⟨cs, rfl, hcs⟩ : ∃ cs : Array Value, v = .agg cs ∧ cs.size = 2 := by
      have h2 := hf.2
      cases v <;> simp [Value.formed, pairArr.hu, pairArr.size] at h2
      exact ⟨_, rfl, h2⟩
    obtain ⟨l⟩ := cs
    match l, hcs with
    | [c0, c1], _ =>
      rw [hm] at h
      unfold Program.keyLits at h
      simp only [pairArr.hu, Value.cells] at h
      rw [if_pos (by rw [pairArr.size]; rfl), show List.range 2 = [0, 1] from rfl, List.mapM_cons, List.mapM_cons, List.mapM_nil] at h
      simp only [Option.map_eq_some_iff, bind, Option.bind_eq_some_iff, pure, Option.some.injEq, pairArr.one] at h
      obtain ⟨ls, ⟨lls, ⟨y0, h0', _, ⟨y1, h1', _, rfl, rfl⟩, rfl⟩, rfl⟩, rfl⟩ := h
      have lit : ∀ (c : Value) (y : List Lit), Try.prog.keyLits (m + 1) 3 [c] = some y → ∃ n, c = .int .i64 n ∧ Wf n := fun c y hy => by
        unfold Program.keyLits at hy
        rw [hq] at hy
        cases c <;> simp at hy
        obtain ⟨⟨rfl, hw⟩, _⟩ := hy
        exact ⟨_, rfl, wf_of_lit hw⟩
      obtain ⟨a, rfl, wa⟩ := lit c0 y0 (by simpa using h0')
      obtain ⟨b, rfl, wb⟩ := lit c1 y1 (by simpa using h1')
      refine ⟨(a, b), ⟨wa, wb⟩, rfl, ?_⟩
      have := key_pair (z := (a, b)) ⟨wa, wb⟩
      unfold pairV at this
      rw [h0] at this
      injection this
  · cases h

/-- a pair laid among others, once -/
def addP (o : List PI) (z : PI) : List PI := if z ∈ o then o else o ++ [z]
theorem addP_mem {o : List PI} {z u : PI} : u ∈ addP o z ↔ u ∈ o ∨ u = z := by
  unfold addP
  split
  · rename_i h
    constructor
    · exact .inl
    · rintro (h1 | rfl)
      · exact h1
      · exact h
  · simp
/-- block b is the set of these pairs -/
def SetP (w : World) (b : Nat) (o : List PI) : Prop :=
  ∃ D : DataW Unit, w.ownsMap Try.prog 46 unitElem b o.length D ∧ Maps.size D = o.length ∧ (∀ z, WfP z → Maps.has D (keyL z) = decide (z ∈ o)) ∧ ∀ z ∈ o, WfP z
theorem setP_made (w : World) : SetP (w.alloc (.map #[] 0)) w.heap.size [] := ⟨_, World.ownsMap_made w _ _ _, rfl, fun _ _ => rfl, fun _ h => by cases h⟩
theorem SetP.kept {w w' : World} {b : Nat} {o : List PI} (h : SetP w b o) (hb : w'.heap[b]? = w.heap[b]?) : SetP w' b o := by
  obtain ⟨D, ⟨es, clock, h1, h2⟩, h3⟩ := h
  exact ⟨D, ⟨es, clock, hb.trans h1, h2⟩, h3⟩
theorem SetP.lt {w : World} {b : Nat} {o : List PI} (h : SetP w b o) : b < w.heap.size := by obtain ⟨D, h1, _⟩ := h; exact h1.lt
theorem SetP.q {w w' : World} {b : Nat} {o : List PI} (h : SetP w b o) (q : Q w w') : SetP w' b o := h.kept (q.block b h.lt)
theorem SetP.grown {w w' : World} {b : Nat} {o : List PI} {row : Option Nat} (h : SetP w b o) (g : w.grownBy w' row) (hb : some b ≠ row) : SetP w' b o := h.kept (g.block b h.lt hb)
theorem SetP.isMap {w : World} {b : Nat} {o : List PI} (h : SetP w b o) : ∃ es clock, w.heap[b]? = some (.map es clock) := by
  obtain ⟨D, ⟨es, clock, h1, _⟩, _⟩ := h
  exact ⟨es, clock, h1⟩
theorem tight {w : World} {b n : Nat} {D : DataW Unit} (h : w.ownsMap Try.prog 46 unitElem b n D) : w.ownsMap Try.prog 46 unitElem b (Maps.size D) D := by
  obtain ⟨es, clock, h1, h2, h3, rfl⟩ := h
  exact ⟨es, clock, h1, h2, by rw [Maps.size_eq, length_read]; exact Nat.le_refl _, rfl⟩
theorem zeroUnitP (w : World) : (zeroValue 79).run Try.prog w = .ok (.agg #[]) w := by kernel_rfl
theorem setP_look {w : World} {b : Nat} {o : List PI} (h : SetP w b o) {z : PI} (hz : WfP z) :
    (Instr.lookup 81 (.map (some b)) (.agg #[.int .i64 z.1, .int .i64 z.2]) true).run Try.prog w = .ok (.tuple #[.agg #[], .bool (decide (z ∈ o))]) w := by
  obtain ⟨D, h1, _, h2, _⟩ := h
  obtain ⟨v, ps, hrun, hv⟩ := h1.look_ok pairKeyed Try.underlying81 (zeroUnitP w) unitElem_mk (key_pair hz)
  obtain ⟨rfl, _⟩ := unitElem_inv hv
  unfold pairV at hrun
  rw [hrun, h2 z hz]
theorem setP_len {w : World} {b : Nat} {o : List PI} (h : SetP w b o) (ty : TypeId) : (Builtin.len_ #[81] ty #[.map (some b)]).run Try.prog w = .ok (.int .i64 o.length) w := by
  obtain ⟨D, h1, h2, _⟩ := h
  rw [h1.len Try.underlying81 ty, h2]
set_option maxRecDepth 100000 in
theorem setP_put {w : World} {b : Nat} {o : List PI} (h : SetP w b o) {z : PI} (hz : WfP z) (ho : o.length ≤ 1000000) :
    ∃ w', (Instr.mapUpdate 81 (.map (some b)) (.agg #[.int .i64 z.1, .int .i64 z.2]) (.agg #[])).run Try.prog w = .ok () w' ∧ SetP w' b (addP o z) ∧ w.grownBy w' (some b) := by
  obtain ⟨D, h1, hs, h2, hw⟩ := h
  obtain ⟨w', hrun, h3, hg⟩ := h1.update (val := .agg #[]) pairKeyed Try.underlying81 (by unfold maxLen; omega) (key_pair hz) unitElem_mk
  unfold pairV at hrun
  have hsz : Maps.size (D.put (keyL z) (.agg [])) = (addP o z).length := by
    rw [Maps.size_put (h1.tidy pairKeyed), h2 z hz, hs]
    unfold addP
    by_cases hm : z ∈ o
    · rw [if_pos hm, if_pos (decide_eq_true hm)]
    · rw [if_neg hm, if_neg (by simp [hm])]; simp
  refine ⟨w', hrun, ⟨_, by have := tight h3; rwa [hsz] at this, hsz, fun u hu => ?_, fun u hu => ?_⟩, hg⟩
  · by_cases e : u = z
    · subst e
      rw [Maps.has_put_same h1.isMap (pairKeyed.key (key_pair hz)), decide_eq_true (addP_mem.2 (.inr rfl))]
    · rw [Maps.has_put_other (fun h => e (key_inj hu hz h)), h2 u hu]
      congr 1
      rw [addP_mem]
      simp [e]
  · rcases addP_mem.1 hu with h | rfl
    · exact hw u h
    · exact hz
theorem q_grown {w w' : World} (q : Q w w') : w.grownBy w' none := ⟨q.os, q.tape, q.output, q.size, fun k hk _ => q.block k hk⟩
set_option maxHeartbeats 1000000 in
theorem add10_any (b : Nat) (o : List PI) (z : PI) (w : World) (h : SetP w b o) (hz : WfP z) (ho : o.length ≤ 1000000) :
    Calls Try.prog 38 #[.map (some b), .agg #[.int .i64 z.1, .int .i64 z.2]] w fun e w' => e = .returned (.bool (!decide (z ∈ o))) ∧ SetP w' b (addP o z) ∧ w.grownBy w' (some b) := by
  obtain ⟨z0, z1⟩ := z
  have q1 := (Q.refl w).alloc (Obj.cells #[.int .i64 z0, .int .i64 z1] 46)
  have h1 := h.q q1
  have hlk := setP_look h1 hz
  have q2 := q1.alloc (Obj.cells #[] 79)
  obtain ⟨w', hput, hS, hg⟩ := setP_put (h.q q2) hz ho
  have HG := Lib.hid (grown_trans ((q_grown q2).but (some b)) hg)
  have HSs := Lib.hid hS
  obtain ⟨bz, hbz⟩ : ∃ bz, decide ((z0, z1) ∈ o) = bz := ⟨_, rfl⟩
  rw [hbz] at hlk ⊢
  clear h h1 hz hS hg q1 q2 hbz
  have x0 := (Ex.own_new8 w [.int .i64 z0, .int .i64 z1] 46).2 0 _ rfl
  go_enter Try.func38, Try.ntmps38
  go_wp2_with fail
  go_ret
  exact ⟨rfl, HSs.out, HG.out⟩
end Go.Proofs.Ytjehccemilefgaa.St

namespace Go.Proofs
open Go.Shelf
def Try.lays122_ren : Go.Shelf.Ren := ⟨fun | 122 => 82 | 215 => 90 | n => n, fun | 3 => 3 | 4 => 4 | n => n, fun | n => n⟩
theorem Try.lays122 : Go.Proofs.Lays.n122 Try.prog Try.lays122_ren := {
  mixed := by kernel_rfl
  f122 := Try.func82.trans (congrArg some (by kernel_rfl))
  f215 := Try.func90.trans (congrArg some (by kernel_rfl))
  t3 := Try.underlying3
  a3 := Try.isAgg3
  z3 := Try.sizeOf3
  v3 := Try.zeroValue3
  t4 := Try.underlying4
  a4 := Try.isAgg4
  z4 := Try.sizeOf4
  v4 := Try.zeroValue4 }
open Go.RowKit in
theorem Try.cmp_Compare_int (x y : Int) (w : World) :
    Calls Try.prog 82 #[.int .i64 x, .int .i64 y] w fun e w' => e = .returned (.int .i64 (Lib.compareInt x y)) ∧ w' = w := Any.cmp_Compare_int Try.lays122 x y w
def Try.sortL_ren : Go.Shelf.Ren := ⟨fun | 6 => 39 | 15 => 60 | 14 => 59 | 28 => 80 | 29 => 81 | 20 => 72 | 21 => 73 | 22 => 74 | 23 => 75 | 24 => 76 | 25 => 77 | 26 => 78 | 27 => 79 | 46 => 85 | 47 => 86 | 48 => 87 | 49 => 88 | 50 => 89 | 57 => 91 | n => n, fun | 22 => 31 | 24 => 46 | 25 => 84 | 3 => 3 | 39 => 97 | 0 => 0 | 53 => 87 | 55 => 99 | 4 => 4 | 46 => 108 | 45 => 107 | 50 => 112 | 5 => 5 | 9 => 9 | 66 => 119 | 70 => 123 | 76 => 126 | 77 => 127 | n => n, fun | n => n⟩
theorem Try.sortL : Go.Proofs.SlLaysF0.n6 Try.prog Try.sortL_ren := {
  mixed := by kernel_rfl
  f6 := ⟨Try.f39.name, by decide, Try.func39.trans (congrArg some (by kernel_rfl))⟩
  f14 := ⟨Try.f59.name, by decide, Try.func59.trans (congrArg some (by kernel_rfl))⟩
  f15 := Try.func60.trans (congrArg some (by kernel_rfl))
  f20 := ⟨Try.f72.name, by decide, Try.func72.trans (congrArg some (by kernel_rfl))⟩
  f21 := ⟨Try.f73.name, by decide, Try.func73.trans (congrArg some (by kernel_rfl))⟩
  f22 := ⟨Try.f74.name, by decide, Try.func74.trans (congrArg some (by kernel_rfl))⟩
  f23 := ⟨Try.f75.name, by decide, Try.func75.trans (congrArg some (by kernel_rfl))⟩
  f24 := ⟨Try.f76.name, by decide, Try.func76.trans (congrArg some (by kernel_rfl))⟩
  f25 := ⟨Try.f77.name, by decide, Try.func77.trans (congrArg some (by kernel_rfl))⟩
  f26 := ⟨Try.f78.name, by decide, Try.func78.trans (congrArg some (by kernel_rfl))⟩
  f27 := ⟨Try.f79.name, by decide, Try.func79.trans (congrArg some (by kernel_rfl))⟩
  f28 := Try.func80.trans (congrArg some (by kernel_rfl))
  f29 := Try.func81.trans (congrArg some (by kernel_rfl))
  f46 := ⟨Try.f85.name, by decide, Try.func85.trans (congrArg some (by kernel_rfl))⟩
  f47 := Try.func86.trans (congrArg some (by kernel_rfl))
  f48 := Try.func87.trans (congrArg some (by kernel_rfl))
  f49 := ⟨Try.f88.name, by decide, Try.func88.trans (congrArg some (by kernel_rfl))⟩
  f50 := ⟨Try.f89.name, by decide, Try.func89.trans (congrArg some (by kernel_rfl))⟩
  f57 := ⟨Try.f91.name, by decide, Try.func91.trans (congrArg some (by kernel_rfl))⟩
  t0 := Try.underlying0
  a0 := Try.isAgg0
  z0 := Try.sizeOf0
  v0 := Try.zeroValue0
  t3 := Try.underlying3
  a3 := Try.isAgg3
  z3 := Try.sizeOf3
  v3 := Try.zeroValue3
  t4 := Try.underlying4
  a4 := Try.isAgg4
  z4 := Try.sizeOf4
  v4 := Try.zeroValue4
  t5 := Try.underlying5
  a5 := Try.isAgg5
  z5 := Try.sizeOf5
  v5 := Try.zeroValue5
  t9 := Try.underlying9
  a9 := Try.isAgg9
  z9 := Try.sizeOf9
  v9 := Try.zeroValue9
  t22 := Try.underlying31
  a22 := Try.isAgg31
  z22 := Try.sizeOf31
  v22 := Try.zeroValue31
  t25 := Try.underlying84
  a25 := Try.isAgg84
  z25 := Try.sizeOf84
  v25 := Try.zeroValue84
  t39 := Try.underlying97
  a39 := Try.isAgg97
  z39 := Try.sizeOf97
  v39 := Try.zeroValue97
  t45 := Try.underlying107
  a45 := Try.isAgg107
  z45 := Try.sizeOf107
  v45 := Try.zeroValue107
  t46 := Try.underlying108
  a46 := Try.isAgg108
  z46 := Try.sizeOf108
  v46 := Try.zeroValue108
  t50 := Try.underlying112
  a50 := Try.isAgg112
  z50 := Try.sizeOf112
  v50 := Try.zeroValue112
  t53 := Try.underlying87
  a53 := Try.isAgg87
  z53 := Try.sizeOf87
  v53 := Try.zeroValue87
  t55 := Try.underlying99
  a55 := Try.isAgg99
  z55 := Try.sizeOf99
  v55 := Try.zeroValue99
  t66 := Try.underlying119
  a66 := Try.isAgg119
  z66 := Try.sizeOf119
  v66 := Try.zeroValue119
  t70 := Try.underlying123
  a70 := Try.isAgg123
  z70 := Try.sizeOf123
  v70 := Try.zeroValue123
  t76 := Try.underlying126
  a76 := Try.isAgg126
  z76 := Try.sizeOf126
  v76 := Try.zeroValue126
  t77 := Try.underlying127
  a77 := Try.isAgg127
  z77 := Try.sizeOf127
  v77 := Try.zeroValue127 }
end Go.Proofs

namespace Go.Proofs.Ytjehccemilefgaa.St
open Go.RowKit Kit Rw Go.Lib Go.Sort
open Go.Proofs.Ytjehccemilefgaa.Tm (Wf)
def cmpP (x y : PI) : Int := if Lib.compareInt x.1 y.1 ≠ 0 then Lib.compareInt x.1 y.1 else Lib.compareInt x.2 y.2
theorem cmpP_lt (x y : PI) : cmpP x y < 0 ↔ ltP x y := by
  unfold cmpP ltP Lib.compareInt
  by_cases h1 : x.1 < y.1
  · simp [h1]
  · by_cases h2 : x.1 > y.1
    · have h3 : ¬ x.1 = y.1 := by omega
      simp [h1, h2, h3]
    · have h3 : x.1 = y.1 := by omega
      by_cases h4 : x.2 < y.2
      · simp [h3, h4]
      · by_cases h5 : x.2 > y.2 <;> simp [h3, h4, h5]
set_option maxRecDepth 100000 in
set_option maxHeartbeats 2000000 in
theorem compareS_any (B1 B2 : Nat) (x y : PI) (w : World) (h10 : w.cell? ⟨B1, 0, none⟩ = some (.int .i64 x.1)) (h11 : w.cell? ⟨B1, 1, none⟩ = some (.int .i64 x.2)) (h20 : w.cell? ⟨B2, 0, none⟩ = some (.int .i64 y.1)) (h21 : w.cell? ⟨B2, 1, none⟩ = some (.int .i64 y.2)) :
    Calls Try.prog 61 #[.slice (some ⟨B1, 0, none⟩) 2 2, .slice (some ⟨B2, 0, none⟩) 2 2] w fun e w' => e = .returned (.int .i64 (cmpP x y)) ∧ w = w' := by
  have C1 := Lib.hid (Try.cmp_Compare_int x.1 y.1)
  have C2 := Lib.hid (Try.cmp_Compare_int x.2 y.2)
  have H10 := Lib.hid h10
  have H11 := Lib.hid h11
  have H20 := Lib.hid h20
  have H21 := Lib.hid h21
  have HP : Hid (cmpP x y = if Lib.compareInt x.1 y.1 ≠ 0 then Lib.compareInt x.1 y.1 else Lib.compareInt x.2 y.2) := rfl
  obtain ⟨x0, x1⟩ := x
  obtain ⟨y0, y1⟩ := y
  clear h10 h11 h20 h21
  go_enter Try.func61, Try.ntmps61
  go_wp2_with fail
  go_loopw [11] (fun iv wr => ∃ k : Nat, k ≤ 2 ∧ iv = .int .i64 k ∧ w = wr ∧ Hid (1 ≤ k → Lib.compareInt x0 y0 = 0) ∧ Hid (2 ≤ k → Lib.compareInt x1 y1 = 0)) (fun iv _ => 2 - (intOf iv).toNat)
  case atStart => exact ⟨0, by omega, rfl, rfl, Lib.hid (fun h => absurd h (by omega)), Lib.hid (fun h => absurd h (by omega))⟩
  case round =>
    obtain ⟨k, hk, rfl, rfl, E0, E1⟩ := hrel
    match k, hk with
    | 0, _ =>
      have h10 := H10.out
      have h20 := H20.out
      obtain ⟨r, hr⟩ : ∃ r, Lib.compareInt x0 y0 = r := ⟨_, rfl⟩
      have HC : Hid (∀ W, Calls Try.prog 82 #[.int .i64 x0, .int .i64 y0] W fun e w' => e = .returned (.int .i64 r) ∧ w' = W) := by unfold Hid; rw [← hr]; exact C1.out
      by_cases h0 : r = 0
      · have hn : (r != 0) = false := by simp [h0]
        have HR := Lib.hid (hr.trans h0)
        clear hr h0
        go_wp2_with (go_at_call 82; refine (HC.out _).mono ?_; rintro e w' ⟨rfl, rfl⟩)
        go_roundw
        case rel => exact ⟨1, by omega, by go_num, by trivial, Lib.hid (fun _ => HR.out), Lib.hid (fun h => absurd h (by omega))⟩
        case measure => simp [intOf]
      · have hn : (r != 0) = true := by simp [h0]
        have HR : Hid (cmpP (x0, y1) (y0, y1) = cmpP (x0, y1) (y0, y1)) := rfl
        have HF : Hid (cmpP (x0, x1) (y0, y1) = r) := by unfold Hid; rw [HP.out, if_pos (by show Lib.compareInt x0 y0 ≠ 0; rw [hr]; exact h0)]; exact hr
        clear hr h0
        go_wp2_with (go_at_call 82; refine (HC.out _).mono ?_; rintro e w' ⟨rfl, rfl⟩)
        go_ret
        exact ⟨by rw [HF.out]; rfl, rfl⟩
    | 1, _ =>
      have h11 := H11.out
      have h21 := H21.out
      obtain ⟨r, hr⟩ : ∃ r, Lib.compareInt x1 y1 = r := ⟨_, rfl⟩
      have HC : Hid (∀ W, Calls Try.prog 82 #[.int .i64 x1, .int .i64 y1] W fun e w' => e = .returned (.int .i64 r) ∧ w' = W) := by unfold Hid; rw [← hr]; exact C2.out
      by_cases h0 : r = 0
      · have hn : (r != 0) = false := by simp [h0]
        have HR := Lib.hid (hr.trans h0)
        clear hr h0
        go_wp2_with (go_at_call 82; refine (HC.out _).mono ?_; rintro e w' ⟨rfl, rfl⟩)
        go_roundw
        case rel => exact ⟨2, by omega, by go_num, by trivial, Lib.hid (fun _ => E0.out (by omega)), Lib.hid (fun _ => HR.out)⟩
        case measure => simp [intOf]
      · have hn : (r != 0) = true := by simp [h0]
        have HF : Hid (cmpP (x0, x1) (y0, y1) = r) := by unfold Hid; rw [HP.out, if_neg (by show ¬ Lib.compareInt x0 y0 ≠ 0; rw [E0.out (by omega)]; simp)]; exact hr
        clear hr h0
        go_wp2_with (go_at_call 82; refine (HC.out _).mono ?_; rintro e w' ⟨rfl, rfl⟩)
        go_ret
        exact ⟨by rw [HF.out]; rfl, rfl⟩
    | 2, _ =>
      have HF : Hid (cmpP (x0, x1) (y0, y1) = 0) := by unfold Hid; rw [HP.out, if_neg (by show ¬ Lib.compareInt x0 y0 ≠ 0; rw [E0.out (by omega)]; simp)]; exact E1.out (by omega)
      go_wp2_with fail
      go_ret
      exact ⟨by rw [HF.out]; rfl, rfl⟩
set_option maxHeartbeats 2000000 in
theorem compare10_any (x y : PI) (w : World) :
    Calls Try.prog 40 #[.agg #[.int .i64 x.1, .int .i64 x.2], .agg #[.int .i64 y.1, .int .i64 y.2]] w fun e w' => e = .returned (.int .i64 (cmpP x y)) ∧ ∃ q os, w' = grow (w.drewN q) os := by
  have HC := Lib.hid (fun B1 B2 W => compareS_any B1 B2 x y W)
  generalize cmpP x y = r at *
  obtain ⟨x0, x1⟩ := x
  obtain ⟨y0, y1⟩ := y
  have oa := (Ex.own_new8 w [.int .i64 x0, .int .i64 x1] 46).q ((Q.refl _).alloc (Obj.cells #[.int .i64 y0, .int .i64 y1] 46))
  have ot := Ex.own_new8 (w.alloc (Obj.cells #[.int .i64 x0, .int .i64 x1] 46)) [.int .i64 y0, .int .i64 y1] 46
  rw [show (w.alloc (Obj.cells #[.int .i64 x0, .int .i64 x1] 46)).heap.size = w.heap.size + 1 by simp] at ot
  have HOA := Lib.hid oa
  have HOT := Lib.hid ot
  have HG : Hid ((w.alloc (Obj.cells #[.int .i64 x0, .int .i64 x1] 46)).alloc (Obj.cells #[.int .i64 y0, .int .i64 y1] 46) = grow w (#[Obj.cells #[.int .i64 x0, .int .i64 x1] 46] ++ #[Obj.cells #[.int .i64 y0, .int .i64 y1] 46])) := by unfold Hid; rw [alloc_eq_grow, alloc_eq_grow, grow_grow]
  clear oa ot
  go_enter Try.func40, Try.ntmps40
  go_upto_region 1 with fail
  generalize (w.alloc (Obj.cells #[.int .i64 x0, .int .i64 x1] 46)).alloc (Obj.cells #[.int .i64 y0, .int .i64 y1] 46) = W at *
  go_quiet (first | (go_at_call 61; refine (HC.out w.heap.size (w.heap.size + 1) (W.drewN _) ((HOA.out.q ((Q.refl W).drewN _)).2 0 _ rfl).1 ((HOA.out.q ((Q.refl W).drewN _)).2 1 _ rfl).1 ((HOT.out.q ((Q.refl W).drewN _)).2 0 _ rfl).1 ((HOT.out.q ((Q.refl W).drewN _)).2 1 _ rfl).1).mono ?_; rintro e w4 ⟨rfl, rfl⟩; exact ⟨rfl, _, rfl⟩))
  go_wp2_with fail
  go_ret
  exact ⟨rfl, _, _, by rw [HG.out]; rfl⟩
end Go.Proofs.Ytjehccemilefgaa.St

namespace Go.Proofs.Ytjehccemilefgaa.St
open Go.RowKit Kit Rw Go.Lib Go.Sort Go.Shelf

def encP (z : PI) : List Value := [.int .i64 z.1, .int .i64 z.2]
theorem ltOf_cmp (x y : PI) : ltOf cmpP x y = decide (ltP x y) := by
  unfold ltOf
  by_cases h : ltP x y
  · rw [decide_eq_true h, decide_eq_true ((cmpP_lt x y).2 h)]
  · rw [decide_eq_false h, decide_eq_false (fun hh => h ((cmpP_lt x y).1 hh))]
theorem swoP : SWO (ltOf cmpP) where
  irrefl x := by rw [ltOf_cmp]; simp [ltP]
  trans x y z h1 h2 := by rw [ltOf_cmp, decide_eq_true_eq] at *; exact ltP_trans h1 h2
  ntrans x y z h1 h2 := by rw [ltOf_cmp, decide_eq_false_iff_not] at *; unfold ltP at *; omega
theorem totP (x y : PI) (h1 : ltOf cmpP x y = false) (h2 : ltOf cmpP y x = false) : x = y := by
  rw [ltOf_cmp, decide_eq_false_iff_not] at h1 h2
  rcases ltP_tri x y with h | h | h
  · exact absurd h h1
  · exact h
  · exact absurd h h2
def sortP (a : List PI) : List PI := a.mergeSort fun x y => !(ltOf cmpP) y x
theorem sortP_perm (a : List PI) : (sortP a).Perm a := List.mergeSort_perm _ _
theorem sortP_len (a : List PI) : (sortP a).length = a.length := (sortP_perm a).length_eq
theorem sortP_sorted (a : List PI) : (sortP a).Pairwise fun x y => ¬ ltP y x := by
  have := List.pairwise_mergeSort (le := fun x y : PI => !(ltOf cmpP) y x) (fun x y z h1 h2 => by
    simp only [ltOf_cmp, Bool.not_eq_true', decide_eq_false_iff_not] at *
    unfold ltP at *; omega) (fun x y => by
    simp only [ltOf_cmp, Bool.or_eq_true, Bool.not_eq_true', decide_eq_false_iff_not]
    unfold ltP; omega) a
  refine this.imp ?_
  intro x y h
  simpa [ltOf_cmp] using h
theorem flat_cells (a : List PI) {j : Nat} (h : j < a.length * 2) : (cellsQ a)[j]? = some ((flatK encP 2 a.toArray)[j]!) := by
  rw [get_flatK _ _ _ _ (by simpa using h)]
  have hd : j / 2 < a.length := by omega
  have e1 : a.toArray[j / 2]! = a[j / 2] := by simp [hd]
  rw [e1]
  rcases Nat.mod_two_eq_zero_or_one j with hm | hm
  · have : j = (j / 2) * 2 := by omega
    rw [hm]
    conv => lhs; rw [this]
    rw [cellsQ_0, List.getElem?_eq_getElem hd]; rfl
  · have : j = (j / 2) * 2 + 1 := by omega
    rw [hm]
    conv => lhs; rw [this]
    rw [cellsQ_1, List.getElem?_eq_getElem hd]; rfl
theorem sort_block (w : World) (blk off n : Nat) (d : Array PI) (os : Array Obj) {i : Nat} (hi : i < w.heap.size) (hb : i ≠ blk) : (sortWorldK encP 2 w blk off n d os).heap[i]? = w.heap[i]? := by
  unfold sortWorldK grow putRowK putRow mapBlock Sort.ahead
  show ((w.heap.modify blk _) ++ os)[i]? = _
  rw [Array.getElem?_append_left (by simpa using hi), Array.getElem?_modify, if_neg (fun e => hb e.symm)]
set_option maxRecDepth 100000 in
theorem sort10_any (base : Nat) (u : Value) (a : List PI) (w : World) (own : w.ownsRow base 46 2 u a.length (cellsQ a)) (hl : a.length ≤ 1000000) :
    Calls Try.prog 39 #[u, .func (.func 40) #[] #[]] w fun e w' => e = .returned (.tuple #[]) ∧ (∃ A c, u = .slice A a.length c ∧ Rds w' w'.heap.size A (cellsQ (sortP a))) ∧ w.grownBy w' u.ownBlock := by
  by_cases h0 : a.length = 0
  · obtain ⟨A, c, rfl, _, _, _⟩ := own_open2 own
    have ha : a = [] := List.length_eq_zero_iff.1 h0
    subst ha
    have hS := AnyF.slices_SortFunc_none (P := Try.prog) (ρ := Try.sortL_ren) { Try.sortL with } A c (.func (.func 40) #[] #[]) w
    refine Calls.mono hS ?_
    rintro e w' ⟨rfl, rfl⟩
    refine ⟨rfl, ⟨A, c, rfl, ?_⟩, ⟨rfl, rfl, rfl, Nat.le_refl _, fun _ _ _ => rfl⟩⟩
    have : sortP ([] : List PI) = [] := List.length_eq_zero_iff.1 (by rw [sortP_len]; rfl)
    rw [this]
    exact Rds.nil _ _ _
  · have own2 := own
    obtain ⟨_, ⟨_, hz⟩ | ⟨g, c, cur, rfl, hg, hh, _⟩⟩ := own
    · omega
    have hO := OwnC.of_row own2
    have hgl : g < w.heap.size := hO.1
    have hH : HoldsK encP 2 w g 0 a.toArray := fun j hj => by
      rw [size_flatK] at hj
      have hj2 : j < a.length * 2 := by simpa using hj
      obtain ⟨p, q⟩ := hO.2 j _ (flat_cells a hj2)
      rw [Nat.zero_add]
      exact ⟨p, q⟩
    have eg : ∀ args w, (callFunc 40 args).run Try.prog w = .ok (.enter 40 args) w := enters_of Try.func40 (by kernel_rfl) rfl
    have hcmp : CmpLays Try.prog 40 #[] encP 2 cmpP g 0 a.toArray.size w := fun _ _ _ _ x y => compare10_any x y _
    have hS := AnyQ.slices_SortFunc_total Try.sortL 2 Try.isAgg46 Try.sizeOf46 encP (fun _ => rfl) (fun x v hv => by simp [encP] at hv; rcases hv with rfl | rfl <;> rfl) cmpP swoP 40 #[] g 0 c a.toArray w eg hcmp hH hgl (by simp; omega) totP
    have hsz : a.toArray.size = a.length := by simp
    rw [hsz] at hS
    refine Calls.mono hS ?_
    rintro e w' ⟨rfl, n, os, rfl⟩
    have hsl : (sortP a).toArray.size = a.toArray.size := by simp [sortP_len]
    have hK : HoldsK encP 2 (sortWorldK encP 2 w g 0 n (sortP a).toArray os) g 0 (sortP a).toArray := holdsK_sortWorldK_c encP 2 w g 0 a.toArray (sortP a).toArray n os hH hgl hsl
    have hge : w.heap.size ≤ (sortWorldK encP 2 w g 0 n (sortP a).toArray os).heap.size := size_sortWorldK_c encP 2 w g 0 n (sortP a).toArray os
    refine ⟨rfl, ⟨_, c, rfl, fun _ => ⟨⟨g, 0, none⟩, rfl, Nat.lt_of_lt_of_le hgl hge, fun j v hv => ?_⟩⟩, ⟨rfl, rfl, rfl, hge, fun i hi hne => sort_block w g 0 n _ os hi (fun e => hne (by rw [e]; rfl))⟩⟩
    have hj : j < (sortP a).length * 2 := by
      have := (List.getElem?_eq_some_iff.1 hv).1
      rwa [cellsQ_len] at this
    have h1 := (hK j (by rw [size_flatK]; simpa using hj)).1
    rw [flat_cells _ hj] at hv
    injection hv with hv
    rw [Hs.add_zero_head, ← hv]
    rw [Nat.zero_add] at h1
    exact h1
end Go.Proofs.Ytjehccemilefgaa.St

namespace Go.Proofs.Ytjehccemilefgaa.St
open Go.RowKit Kit Rw
open Go.Proofs.Ytjehccemilefgaa.Sg (Sig Row)
open Go.Proofs.Ytjehccemilefgaa.Hs (Ints Keys BoxT)
open Go.Proofs.Ytjehccemilefgaa.Tm (Tm Store termAt Box4 isPl isPl_iff)
def pairC (R : Option Addr) (nl cl : Nat) (x y : Int) (s : Tm) (A1 : Option Addr) (c1 : Nat) (t : Tm) (A2 : Option Addr) (c2 : Nat) : List Value :=
  [.slice R nl cl, .int .i64 x, .int .i64 y, .int .i64 s.k, .int .i64 s.s, .int .i64 s.p, .slice A1 s.xs.length c1, .int .i64 t.k, .int .i64 t.s, .int .i64 t.p, .slice A2 t.xs.length c2]
structure PairB (W : World) (B : Nat) (R : Option Addr) (cl : Nat) (L : List Sig) (x y : Int) (s : Tm) (A1 : Option Addr) (c1 : Nat) (t : Tm) (A2 : Option Addr) (c2 : Nat) : Prop where
  box : OwnC W B (pairC R L.length cl x y s A1 c1 t A2 c2)
  row : Row W W.heap.size R L
  i1 : Ints W W.heap.size A1 s.xs
  i2 : Ints W W.heap.size A2 t.xs
theorem PairB.q {W W' : World} {B : Nat} {R : Option Addr} {cl : Nat} {L : List Sig} {x y : Int} {s : Tm} {A1 : Option Addr} {c1 : Nat} {t : Tm} {A2 : Option Addr} {c2 : Nat} (h : PairB W B R cl L x y s A1 c1 t A2 c2) (q : Q W W') : PairB W' B R cl L x y s A1 c1 t A2 c2 :=
  ⟨h.box.q q, (h.row.q (Nat.le_refl _) q).more q.size, (h.i1.q (Nat.le_refl _) q).more q.size, (h.i2.q (Nat.le_refl _) q).more q.size⟩
theorem way_kind (w : World) : OwnC (w.alloc (Obj.cells #[.int .i64 0, .slice none 0 0] 33)) w.heap.size [.int .i64 0, .slice none 0 0] := Ex.own_new8 w [.int .i64 0, .slice none 0 0] 33
theorem done10_any (v : Value) (w : World) : Calls Try.prog 51 #[v] w (WayPost (0, []) w) := by
  have HR8 := Lib.hid (way_kind w)
  have HQ0 := Lib.hid ((Q.refl w).alloc (Obj.cells #[.int .i64 0, .slice none 0 0] 33))
  go_enter Try.func51, Try.ntmps51
  go_upto_region 1 with fail
  generalize w.alloc (Obj.cells #[.int .i64 0, .slice none 0 0] 33) = W at *
  obtain ⟨z00, z01⟩ := HR8.out.2 0 _ rfl
  obtain ⟨z10, z11⟩ := HR8.out.2 1 _ rfl
  go_wp2_with fail
  obtain ⟨⟨y0, y1⟩, hrd, hqw⟩ := way_close (w := w) (A := none) (l := []) (.int .i64 0) (.slice none 0 0) HR8.out (Nat.le_refl _) HQ0.out (Rds.nil _ _ _) (fun h => absurd h (by simp))
  exact bodyPost_ret (v := .agg #[.int .i64 0, .slice none 0 0]) (by simp [results, Try.f51, go_sem, y0, y1]) rfl ⟨none, 0, rfl, hrd, hqw, fun _ h => by cases h⟩
theorem atom10_any (v : Value) (w : World) : Calls Try.prog 54 #[v] w (WayPost (2, []) w) := by
  have HR8 := Lib.hid (way_kind w)
  have HQ0 := Lib.hid ((Q.refl w).alloc (Obj.cells #[.int .i64 0, .slice none 0 0] 33))
  go_enter Try.func54, Try.ntmps54
  go_upto_region 1 with fail
  generalize w.alloc (Obj.cells #[.int .i64 0, .slice none 0 0] 33) = W at *
  obtain ⟨z00, z01⟩ := HR8.out.2 0 _ rfl
  obtain ⟨z10, z11⟩ := HR8.out.2 1 _ rfl
  go_wp2_with fail
  obtain ⟨⟨y0, y1⟩, hrd, hqw⟩ := way_close (w := w) (A := none) (l := []) (.int .i64 2) (.slice none 0 0) HR8.out (Nat.le_refl _) HQ0.out (Rds.nil _ _ _) (fun h => absurd h (by simp))
  exact bodyPost_ret (v := .agg #[.int .i64 2, .slice none 0 0]) (by simp [results, Try.f54, go_sem, y0, y1]) rfl ⟨none, 0, rfl, hrd, hqw, fun _ h => by cases h⟩
theorem clash10_any (v : Value) (w : World) : Calls Try.prog 58 #[v] w (WayPost (3, []) w) := by
  have HR8 := Lib.hid (way_kind w)
  have HQ0 := Lib.hid ((Q.refl w).alloc (Obj.cells #[.int .i64 0, .slice none 0 0] 33))
  go_enter Try.func58, Try.ntmps58
  go_upto_region 1 with fail
  generalize w.alloc (Obj.cells #[.int .i64 0, .slice none 0 0] 33) = W at *
  obtain ⟨z00, z01⟩ := HR8.out.2 0 _ rfl
  obtain ⟨z10, z11⟩ := HR8.out.2 1 _ rfl
  go_wp2_with fail
  obtain ⟨⟨y0, y1⟩, hrd, hqw⟩ := way_close (w := w) (A := none) (l := []) (.int .i64 3) (.slice none 0 0) HR8.out (Nat.le_refl _) HQ0.out (Rds.nil _ _ _) (fun h => absurd h (by simp))
  exact bodyPost_ret (v := .agg #[.int .i64 3, .slice none 0 0]) (by simp [results, Try.f58, go_sem, y0, y1]) rfl ⟨none, 0, rfl, hrd, hqw, fun _ h => by cases h⟩
set_option maxRecDepth 100000 in
set_option maxHeartbeats 4000000 in
theorem eachOnLeft10_any (B : Nat) (R : Option Addr) (cl : Nat) (L : List Sig) (x y : Int) (s : Tm) (A1 : Option Addr) (c1 : Nat) (t : Tm) (A2 : Option Addr) (c2 : Nat) (w : World) (h : PairB w B R cl L x y s A1 c1 t A2 c2) (hl : s.xs.length ≤ 1000) :
    Calls Try.prog 52 #[.pointer (some ⟨B, 0, none⟩)] w (WayPost (1, s.xs.map (fun a : Int => ((a, y) : PI))) w) := by
  obtain ⟨i0, hi, hz0, hz1, hz2⟩ := info_parts pairInfo
  have Hi := Lib.hid hi
  have Hz0 := Lib.hid hz0
  have Hz1 := Lib.hid hz1
  have Hz2 := Lib.hid hz2
  clear hi hz0 hz1 hz2
  have q0 := (Q.refl w).alloc (Obj.cells #[.int .i64 0, .slice none 0 0] 33)
  have HB := Lib.hid (h.q q0)
  have HQ0 := Lib.hid q0
  have HR8 := Lib.hid (way_kind w)
  clear h q0
  obtain ⟨x0, _⟩ := HB.out.box.2 6 _ rfl
  go_enter Try.func52, Try.ntmps52
  go_wp2_with fail
  clear x0
  generalize w.alloc (Obj.cells #[.int .i64 0, .slice none 0 0] 33) = W at *
  go_loopw [3, 12] (fun u iv wr => ∃ (k : Nat) (P : List PI) (v : Value), k ≤ s.xs.length ∧ iv = .int .i64 k ∧ v = u ∧ P.length = k ∧ Hid (P = (s.xs.take k).map (fun a : Int => ((a, y) : PI))) ∧ Hid (wr.ownsRow W.heap.size 46 2 v P.length (cellsQ P)) ∧ Hid (Q W wr)) (fun _ iv _ => s.xs.length - (intOf iv).toNat)
  case atStart => exact ⟨0, [], _, Nat.zero_le _, rfl, rfl, rfl, Lib.hid (by simp), Lib.hid (own_nil W _ _ _), Lib.hid (Q.refl W)⟩
  case round =>
    obtain ⟨k, P, v, hk, rfl, rfl, hPl, HP, HO, HQ⟩ := hrel
    by_cases hkl : k < s.xs.length
    · obtain ⟨ad, rfl, had, e0⟩ := (HB.out.q HQ.out).i1.at_ hkl
      obtain ⟨z0, _⟩ := (HB.out.q HQ.out).box.2 2 _ rfl
      have d0 : decide ((k : Int) < (s.xs.length : Int)) = true := decide_eq_true (by omega)
      have d1 : (k : Int) < (s.xs.length : Int) := by omega
      have d2 : (0 : Int) ≤ (k : Int) := Int.natCast_nonneg _
      have HP2 : Hid (P ++ [(s.xs[k], y)] = (s.xs.take (k + 1)).map (fun a : Int => ((a, y) : PI))) := by unfold Hid; rw [HP.out, List.take_succ_eq_append_getElem hkl, List.map_append]; rfl
      have HO1 := Lib.hid (row_kept HO.out ((Q.refl wr).alloc (Obj.cells #[.int .i64 s.xs[k], .int .i64 y] 46)) (Nat.le_refl _))
      have HB1 := Lib.hid (HQ.out.alloc (Obj.cells #[.int .i64 s.xs[k], .int .i64 y] 46))
      have hb1 : W.heap.size ≤ (wr.alloc (Obj.cells #[.int .i64 s.xs[k], .int .i64 y] 46)).heap.size := Nat.le_trans HQ.out.size ((Q.refl wr).alloc _).size
      have HS1 := Lib.hid (src_alloc wr [.int .i64 s.xs[k], .int .i64 y] 46 (0, 0))
      have HPL := Lib.hid hPl
      clear HP hPl
      generalize s.xs[k] = xk at *
      go_wp2_with (at_builtin; refine wpList_append_src _ rfl (.tmp 16) (.tmp 23) _ rfl W.heap.size 46 i0 _ 2 16 Try.underlying31 Hi.out Hz0.out Hz1.out Hz2.out rfl (by omega) v P.length (cellsQ P) rfl HO1.out (some ⟨wr.heap.size, 0, none⟩) 1 1 [.int .i64 xk, .int .i64 y] rfl rfl HS1.out (by simp [Value.oneCell']) (by rw [HPL.out]; unfold maxLen; omega) (by rw [HPL.out]; omega) hb1 ?_; intro v' w' own' gr' _; have Own := Lib.hid own'; have HQ' : Hid (Below W.heap.size W w') := Below.grown HB1.out gr' hb1 (fun k e => (HO1.out.lt k e).1); clear own' gr')
      go_roundw
      case rel => exact ⟨k + 1, P ++ [(xk, y)], v', by omega, by go_num, rfl, by rw [List.length_append, HPL.out]; rfl, HP2, by unfold Hid; rw [List.length_append, cellsQ_append]; exact Own.out, HQ'⟩
      case measure => simp [intOf]; omega
    · have hkx : k = s.xs.length := by omega
      have HP2 : Hid (s.xs.map (fun a : Int => ((a, y) : PI)) = P) := by unfold Hid; rw [HP.out, hkx, List.take_length]
      obtain ⟨A5, c5, rfl, hr5, hA5⟩ := own_open HO.out
      have d0 : decide ((k : Int) < (s.xs.length : Int)) = false := decide_eq_false (by omega)
      obtain ⟨⟨y0, y1⟩, hrd, hqw⟩ := way_close (w := w) (l := P) (.int .i64 1) (.slice A5 P.length c5) (HR8.out.q HQ.out) (Nat.le_refl _) (HQ0.out.trans HQ.out) hr5 (fun _ ad ha => Nat.ne_of_gt (Nat.lt_of_lt_of_le HR8.out.1 (hA5 ad ha)))
      have Y0 := Lib.hid y0
      have Y1 := Lib.hid y1
      have HRD := Lib.hid hrd
      have HQW := Lib.hid hqw
      have HFA := Lib.hid hA5
      obtain ⟨z00, z01⟩ := (HR8.out.q HQ.out).2 0 _ rfl
      obtain ⟨z10, z11⟩ := (HR8.out.q HQ.out).2 1 _ rfl
      clear y0 y1 hrd hqw hr5 hA5 HP hPl hkx hk
      go_wp2_with fail
      have y0 := Y0.out
      have y1 := Y1.out
      exact bodyPost_ret (v := .agg #[.int .i64 1, .slice A5 P.length c5]) (by simp [results, Try.f52, go_sem, y0, y1]) rfl ⟨_, _, by rw [HP2.out], by rw [HP2.out]; exact HRD.out, HQW.out, fun ad ha => Nat.le_trans HQ0.out.size (HFA.out ad ha)⟩
set_option maxRecDepth 100000 in
set_option maxHeartbeats 4000000 in
theorem eachOnRight10_any (B : Nat) (R : Option Addr) (cl : Nat) (L : List Sig) (x y : Int) (s : Tm) (A1 : Option Addr) (c1 : Nat) (t : Tm) (A2 : Option Addr) (c2 : Nat) (w : World) (h : PairB w B R cl L x y s A1 c1 t A2 c2) (hl : t.xs.length ≤ 1000) :
    Calls Try.prog 53 #[.pointer (some ⟨B, 0, none⟩)] w (WayPost (1, t.xs.map (fun a : Int => ((x, a) : PI))) w) := by
  obtain ⟨i0, hi, hz0, hz1, hz2⟩ := info_parts pairInfo
  have Hi := Lib.hid hi
  have Hz0 := Lib.hid hz0
  have Hz1 := Lib.hid hz1
  have Hz2 := Lib.hid hz2
  clear hi hz0 hz1 hz2
  have q0 := (Q.refl w).alloc (Obj.cells #[.int .i64 0, .slice none 0 0] 33)
  have HB := Lib.hid (h.q q0)
  have HQ0 := Lib.hid q0
  have HR8 := Lib.hid (way_kind w)
  clear h q0
  obtain ⟨x0, _⟩ := HB.out.box.2 10 _ rfl
  go_enter Try.func53, Try.ntmps53
  go_wp2_with fail
  clear x0
  generalize w.alloc (Obj.cells #[.int .i64 0, .slice none 0 0] 33) = W at *
  go_loopw [3, 12] (fun u iv wr => ∃ (k : Nat) (P : List PI) (v : Value), k ≤ t.xs.length ∧ iv = .int .i64 k ∧ v = u ∧ P.length = k ∧ Hid (P = (t.xs.take k).map (fun a : Int => ((x, a) : PI))) ∧ Hid (wr.ownsRow W.heap.size 46 2 v P.length (cellsQ P)) ∧ Hid (Q W wr)) (fun _ iv _ => t.xs.length - (intOf iv).toNat)
  case atStart => exact ⟨0, [], _, Nat.zero_le _, rfl, rfl, rfl, Lib.hid (by simp), Lib.hid (own_nil W _ _ _), Lib.hid (Q.refl W)⟩
  case round =>
    obtain ⟨k, P, v, hk, rfl, rfl, hPl, HP, HO, HQ⟩ := hrel
    by_cases hkl : k < t.xs.length
    · obtain ⟨ad, rfl, had, e0⟩ := (HB.out.q HQ.out).i2.at_ hkl
      obtain ⟨z0, _⟩ := (HB.out.q HQ.out).box.2 1 _ rfl
      have d0 : decide ((k : Int) < (t.xs.length : Int)) = true := decide_eq_true (by omega)
      have d1 : (k : Int) < (t.xs.length : Int) := by omega
      have d2 : (0 : Int) ≤ (k : Int) := Int.natCast_nonneg _
      have HP2 : Hid (P ++ [(x, t.xs[k])] = (t.xs.take (k + 1)).map (fun a : Int => ((x, a) : PI))) := by unfold Hid; rw [HP.out, List.take_succ_eq_append_getElem hkl, List.map_append]; rfl
      have HO1 := Lib.hid (row_kept HO.out ((Q.refl wr).alloc (Obj.cells #[.int .i64 x, .int .i64 t.xs[k]] 46)) (Nat.le_refl _))
      have HB1 := Lib.hid (HQ.out.alloc (Obj.cells #[.int .i64 x, .int .i64 t.xs[k]] 46))
      have hb1 : W.heap.size ≤ (wr.alloc (Obj.cells #[.int .i64 x, .int .i64 t.xs[k]] 46)).heap.size := Nat.le_trans HQ.out.size ((Q.refl wr).alloc _).size
      have HS1 := Lib.hid (src_alloc wr [.int .i64 x, .int .i64 t.xs[k]] 46 (0, 0))
      have HPL := Lib.hid hPl
      clear HP hPl
      generalize t.xs[k] = xk at *
      go_wp2_with (at_builtin; refine wpList_append_src _ rfl (.tmp 16) (.tmp 23) _ rfl W.heap.size 46 i0 _ 2 16 Try.underlying31 Hi.out Hz0.out Hz1.out Hz2.out rfl (by omega) v P.length (cellsQ P) rfl HO1.out (some ⟨wr.heap.size, 0, none⟩) 1 1 [.int .i64 x, .int .i64 xk] rfl rfl HS1.out (by simp [Value.oneCell']) (by rw [HPL.out]; unfold maxLen; omega) (by rw [HPL.out]; omega) hb1 ?_; intro v' w' own' gr' _; have Own := Lib.hid own'; have HQ' : Hid (Below W.heap.size W w') := Below.grown HB1.out gr' hb1 (fun k e => (HO1.out.lt k e).1); clear own' gr')
      go_roundw
      case rel => exact ⟨k + 1, P ++ [(x, xk)], v', by omega, by go_num, rfl, by rw [List.length_append, HPL.out]; rfl, HP2, by unfold Hid; rw [List.length_append, cellsQ_append]; exact Own.out, HQ'⟩
      case measure => simp [intOf]; omega
    · have hkx : k = t.xs.length := by omega
      have HP2 : Hid (t.xs.map (fun a : Int => ((x, a) : PI)) = P) := by unfold Hid; rw [HP.out, hkx, List.take_length]
      obtain ⟨A5, c5, rfl, hr5, hA5⟩ := own_open HO.out
      have d0 : decide ((k : Int) < (t.xs.length : Int)) = false := decide_eq_false (by omega)
      obtain ⟨⟨y0, y1⟩, hrd, hqw⟩ := way_close (w := w) (l := P) (.int .i64 1) (.slice A5 P.length c5) (HR8.out.q HQ.out) (Nat.le_refl _) (HQ0.out.trans HQ.out) hr5 (fun _ ad ha => Nat.ne_of_gt (Nat.lt_of_lt_of_le HR8.out.1 (hA5 ad ha)))
      have Y0 := Lib.hid y0
      have Y1 := Lib.hid y1
      have HRD := Lib.hid hrd
      have HQW := Lib.hid hqw
      have HFA := Lib.hid hA5
      obtain ⟨z00, z01⟩ := (HR8.out.q HQ.out).2 0 _ rfl
      obtain ⟨z10, z11⟩ := (HR8.out.q HQ.out).2 1 _ rfl
      clear y0 y1 hrd hqw hr5 hA5 HP hPl hkx hk
      go_wp2_with fail
      have y0 := Y0.out
      have y1 := Y1.out
      exact bodyPost_ret (v := .agg #[.int .i64 1, .slice A5 P.length c5]) (by simp [results, Try.f53, go_sem, y0, y1]) rfl ⟨_, _, by rw [HP2.out], by rw [HP2.out]; exact HRD.out, HQW.out, fun ad ha => Nat.le_trans HQ0.out.size (HFA.out ad ha)⟩
end Go.Proofs.Ytjehccemilefgaa.St

namespace Go.Proofs.Ytjehccemilefgaa.St
open Go.RowKit Kit Rw
open Go.Proofs.Ytjehccemilefgaa.Sg (Sig Row)
open Go.Proofs.Ytjehccemilefgaa.Hs (Ints Keys BoxT)
open Go.Proofs.Ytjehccemilefgaa.Tm (Tm Store termAt Box4 isPl isPl_iff)
set_option maxRecDepth 100000 in
set_option maxHeartbeats 4000000 in
theorem partOfAll10_any (B : Nat) (R : Option Addr) (cl : Nat) (L : List Sig) (x y : Int) (s : Tm) (A1 : Option Addr) (c1 : Nat) (t : Tm) (A2 : Option Addr) (c2 : Nat) (w : World) (h : PairB w B R cl L x y s A1 c1 t A2 c2) (b : Nat) (ht : TOk L b t) (h6 : t.k = 6) (hl8 : ∀ s ∈ L, s.2.size ≤ 8) :
    Calls Try.prog 55 #[.pointer (some ⟨B, 0, none⟩)] w (WayPost (1, pairsA (x, t.xs.headD 0) (t.xs.headD 0, 0) (varyN L t.s t.p.toNat)) w) := by
  have q0 := (Q.refl w).alloc (Obj.cells #[.int .i64 0, .slice none 0 0] 33)
  have HB := Lib.hid (h.q q0)
  have HQ0 := Lib.hid q0
  have HR8 := Lib.hid (way_kind w)
  clear h q0
  obtain ⟨e, hxs⟩ : ∃ e, t.xs = [e] := by
    cases ht with
    | leaf _ h => omega
    | con j h h3 => omega
    | two a b h => omega
    | proj j m h e _ _ _ _ hx => exact ⟨e, hx⟩
  have HT := Lib.hid ht
  have H6 := Lib.hid h6
  have H8 := Lib.hid hl8
  have HXS := Lib.hid hxs
  have HL1 : Hid (t.xs.length = 1) := by unfold Hid; rw [hxs]; rfl
  have HW : Hid (pairsA (x, t.xs.headD 0) (t.xs.headD 0, 0) (varyN L t.s t.p.toNat) = pairsA (x, e) (e, 0) (varyN L t.s t.p.toNat)) := by unfold Hid; rw [hxs]; rfl
  obtain ⟨RS, hRS⟩ : ∃ r, pairsA (x, t.xs.headD 0) (t.xs.headD 0, 0) (varyN L t.s t.p.toNat) = r := ⟨_, rfl⟩
  rw [hRS] at HW ⊢
  clear ht h6 hl8 hRS
  go_enter Try.func55, Try.ntmps55
  go_upto_region 1 with fail
  generalize w.alloc (Obj.cells #[.int .i64 0, .slice none 0 0] 33) = W at *
  have hx10 : W.cell? ⟨B, 10, none⟩ = some (.slice A2 1 c2) := (HB.out.box.2 10 _ rfl).1.trans (by rw [HL1.out])
  have x0 := (HB.out.box.2 0 _ rfl).1
  have x1 := (HB.out.box.2 1 _ rfl).1
  have x7 := (HB.out.box.2 7 _ rfl).1
  have x8 := (HB.out.box.2 8 _ rfl).1
  have x9 := (HB.out.box.2 9 _ rfl).1
  have hBl := HB.out.box.1
  have hS : Hid (∀ U, Q W U → (U.cell? ⟨B, 0, none⟩ = some (.slice R L.length cl) ∧ U.cell? ⟨B, 1, none⟩ = some (.int .i64 x) ∧ U.cell? ⟨B, 7, none⟩ = some (.int .i64 t.k) ∧ U.cell? ⟨B, 8, none⟩ = some (.int .i64 t.s) ∧ U.cell? ⟨B, 9, none⟩ = some (.int .i64 t.p) ∧ U.cell? ⟨B, 10, none⟩ = some (.slice A2 1 c2))) := fun U q => ⟨(q.cell (p := ⟨B, 0, none⟩) hBl).trans x0, (q.cell (p := ⟨B, 1, none⟩) hBl).trans x1, (q.cell (p := ⟨B, 7, none⟩) hBl).trans x7, (q.cell (p := ⟨B, 8, none⟩) hBl).trans x8, (q.cell (p := ⟨B, 9, none⟩) hBl).trans x9, (q.cell (p := ⟨B, 10, none⟩) hBl).trans hx10⟩
  obtain ⟨ad, rfl, had, e0⟩ := HB.out.i2.at_ (k := 0) (by rw [HL1.out]; omega)
  have e1 : W.cell? ad = some (.int .i64 e) := by
    have := e0
    simp only [HXS.out] at this
    simpa [Addr.add] using this
  clear e0 hxs
  go_upto_region 2 with fail
  clear x0 x1 x7 x8 x9 hx10 hBl e1 had
  have CV := Lib.hid (fun U (q : Q W U) => vary10_any R (some ad) L.length cl 1 c2 b L t U rfl (HB.out.q q).row HT.out H8.out)
  have CW := Lib.hid (fun U (q : Q W U) v => varied10_any W.heap.size [] (.slice none 0 0) v (x, e) (e, 0) U (own_nil U _ _ _) q.size (by simp))
  refine wp_region_held_drew (S := fun w' => w'.cell? ⟨B, 0, none⟩ = some (.slice R L.length cl) ∧ w'.cell? ⟨B, 1, none⟩ = some (.int .i64 x) ∧ w'.cell? ⟨B, 7, none⟩ = some (.int .i64 t.k) ∧ w'.cell? ⟨B, 8, none⟩ = some (.int .i64 t.s) ∧ w'.cell? ⟨B, 9, none⟩ = some (.int .i64 t.p) ∧ w'.cell? ⟨B, 10, none⟩ = some (.slice (some ad) 1 c2)) (by kernel_rfl) ?_ (fun hHeld => ?_)
  · exact hS.out _ (Q.refl W).drew
  refine take_w (i := 0) (d := some 12) (v := ?_) rfl (by kernel_rfl) (by kernel_rfl) (by kernel_rfl) (fun _ _ _ h => h) rfl (by rfl) ?_ (by assumption) ?_
  rotate_left
  · (intro w hSw; (try dsimp only at hSw); go_simp; (try with_reducible rfl))
  try simp only [Act.put, List.setIfInBounds_toArray, List.set_cons_zero, List.set_cons_succ]
  refine take_w (i := 1) (d := some 13) (v := ?_) rfl (by kernel_rfl) (by kernel_rfl) (by kernel_rfl) (fun _ _ _ h => h) rfl (by rfl) ?_ (by assumption) ?_
  rotate_left
  · (intro w hSw; (try dsimp only at hSw); go_simp; (try with_reducible rfl))
  try simp only [Act.put, List.setIfInBounds_toArray, List.set_cons_zero, List.set_cons_succ]
  refine take_w (i := 2) (d := some 14) (v := ?_) rfl (by kernel_rfl) (by kernel_rfl) (by kernel_rfl) (fun _ _ _ h => h) rfl (by rfl) ?_ (by assumption) ?_
  rotate_left
  · (intro w hSw; (try dsimp only at hSw); go_simp; (try with_reducible rfl))
  try simp only [Act.put, List.setIfInBounds_toArray, List.set_cons_zero, List.set_cons_succ]
  refine take_w (i := 3) (d := some 15) (v := ?_) rfl (by kernel_rfl) (by kernel_rfl) (by kernel_rfl) (fun _ _ _ h => h) rfl (by rfl) ?_ (by assumption) ?_
  rotate_left
  · (intro w hSw; (try dsimp only at hSw); go_simp; (try with_reducible rfl))
  try simp only [Act.put, List.setIfInBounds_toArray, List.set_cons_zero, List.set_cons_succ]
  refine take_w (i := 4) (d := some 16) (v := ?_) rfl (by kernel_rfl) (by kernel_rfl) (by kernel_rfl) (fun _ _ _ h => h) rfl (by rfl) ?_ (by assumption) ?_
  rotate_left
  · (intro w hSw; (try dsimp only at hSw); go_simp; (try with_reducible rfl))
  try simp only [Act.put, List.setIfInBounds_toArray, List.set_cons_zero, List.set_cons_succ]
  refine take_w (i := 5) (d := some 17) (v := ?_) rfl (by kernel_rfl) (by kernel_rfl) (by kernel_rfl) (fun _ _ _ h => h) rfl (by rfl) ?_ (by assumption) ?_
  rotate_left
  · (intro w hSw; (try dsimp only at hSw); go_simp; (try with_reducible rfl))
  try simp only [Act.put, List.setIfInBounds_toArray, List.set_cons_zero, List.set_cons_succ]
  refine take_w (i := 6) (d := some 18) (v := ?_) rfl (by kernel_rfl) (by kernel_rfl) (by kernel_rfl) (fun _ _ _ h => h) rfl (by rfl) ?_ (by assumption) ?_
  rotate_left
  · (intro w hSw; (try dsimp only at hSw); go_simp; (try with_reducible rfl))
  try simp only [Act.put, List.setIfInBounds_toArray, List.set_cons_zero, List.set_cons_succ]
  refine take_w (i := 7) (d := some 19) (v := ?_) rfl (by kernel_rfl) (by kernel_rfl) (by kernel_rfl) (fun _ _ _ h => h) rfl (by rfl) ?_ (by assumption) ?_
  rotate_left
  · (intro w hSw; (try dsimp only at hSw); go_simp; (try with_reducible rfl))
  try simp only [Act.put, List.setIfInBounds_toArray, List.set_cons_zero, List.set_cons_succ]
  refine take_w (i := 10) (d := some 22) (v := ?_) rfl (by kernel_rfl) (by kernel_rfl) (by kernel_rfl) (fun _ _ _ h => h) rfl (by rfl) ?_ (by assumption) ?_
  rotate_left
  · (intro w hSw; (try dsimp only at hSw); go_simp; (try with_reducible rfl))
  try simp only [Act.put, List.setIfInBounds_toArray, List.set_cons_zero, List.set_cons_succ]
  refine take_w (i := 11) (d := some 23) (v := ?_) rfl (by kernel_rfl) (by kernel_rfl) (by kernel_rfl) (fun _ _ _ h => h) rfl (by rfl) ?_ (by assumption) ?_
  rotate_left
  · (intro w hSw; (try dsimp only at hSw); go_simp; (try with_reducible rfl))
  try simp only [Act.put, List.setIfInBounds_toArray, List.set_cons_zero, List.set_cons_succ]
  refine take_w (i := 12) (d := some 24) (v := ?_) rfl (by kernel_rfl) (by kernel_rfl) (by kernel_rfl) (fun _ _ _ h => h) rfl (by rfl) ?_ (by assumption) ?_
  rotate_left
  · (intro w hSw; (try dsimp only at hSw); go_simp; (try with_reducible rfl))
  try simp only [Act.put, List.setIfInBounds_toArray, List.set_cons_zero, List.set_cons_succ]
  refine take_w (i := 13) (d := some 25) (v := ?_) rfl (by kernel_rfl) (by kernel_rfl) (by kernel_rfl) (fun _ _ _ h => h) rfl (by rfl) ?_ (by assumption) ?_
  rotate_left
  · (intro w hSw; (try dsimp only at hSw); go_simp; (try with_reducible rfl))
  try simp only [Act.put, List.setIfInBounds_toArray, List.set_cons_zero, List.set_cons_succ]
  refine take_w (i := 14) (d := some 26) (v := ?_) rfl (by kernel_rfl) (by kernel_rfl) (by kernel_rfl) (fun _ _ _ h => h) rfl (by rfl) ?_ (by assumption) ?_
  rotate_left
  · (intro w hSw; (try dsimp only at hSw); go_simp; (try with_reducible rfl))
  try simp only [Act.put, List.setIfInBounds_toArray, List.set_cons_zero, List.set_cons_succ]
  refine take_w (i := 15) (d := some 27) (v := ?_) rfl (by kernel_rfl) (by kernel_rfl) (by kernel_rfl) (fun _ _ _ h => h) rfl (by rfl) ?_ (by assumption) ?_
  rotate_left
  · (intro w hSw; (try dsimp only at hSw); go_simp; (try with_reducible rfl))
  try simp only [Act.put, List.setIfInBounds_toArray, List.set_cons_zero, List.set_cons_succ]
  refine take_w (i := 16) (d := some 28) (v := ?_) rfl (by kernel_rfl) (by kernel_rfl) (by kernel_rfl) (fun _ _ _ h => h) rfl (by rfl) ?_ (by assumption) ?_
  rotate_left
  · (intro w hSw; (try dsimp only at hSw); go_simp; (try with_reducible rfl))
  try simp only [Act.put, List.setIfInBounds_toArray, List.set_cons_zero, List.set_cons_succ]
  refine take_w (i := 17) (d := some 29) (v := ?_) rfl (by kernel_rfl) (by kernel_rfl) (by kernel_rfl) (fun _ _ _ h => h) rfl (by rfl) ?_ (by assumption) ?_
  rotate_left
  · (intro w hSw; (try dsimp only at hSw); go_simp; (try with_reducible rfl))
  try simp only [Act.put, List.setIfInBounds_toArray, List.set_cons_zero, List.set_cons_succ]
  refine call_w (i := 8) rfl (by kernel_rfl) (by rfl) (fun K hK => ?_)
  go_simp
  go_at_call 33
  refine (CV.out _ (Q.refl W).drew).mono ?_
  rintro e5 w5 ⟨bs, rfl, hvb, hv6, q5⟩
  have p5 := (Q.refl W).drew.trans q5
  obtain ⟨hb0, hb1⟩ := hv6 H6.out
  have hb2 : (0 : Int) < (bs.size : Int) := by omega
  have HB1 := Lib.hid (hb1 hb0)
  clear hb1 hvb hv6
  refine hK.out _ _ ?_ (fun hHeld => ?_)
  · exact hS.out _ p5
  clear hK K
  try simp only [Act.put, List.setIfInBounds_toArray, List.set_cons_zero, List.set_cons_succ]
  refine take_w (i := 9) (d := some 21) (v := ?_) rfl (by kernel_rfl) (by kernel_rfl) (by kernel_rfl) (fun _ _ _ h => h) rfl (by rfl) ?_ (by assumption) ?_
  rotate_left
  · (intro w hSw; (try dsimp only at hSw); go_simp; (try with_reducible rfl))
  try simp only [Act.put, List.setIfInBounds_toArray, List.set_cons_zero, List.set_cons_succ]
  refine call_w (i := 18) rfl (by kernel_rfl) (by rfl) (fun K hK => ?_)
  go_simp
  go_at_call 71
  refine (CW.out _ p5 _).mono ?_
  rintro e6 w6 ⟨v6, rfl, own6, b6⟩
  have p6 : Q W w6 := Below.trans p5 b6
  have Own := Lib.hid own6
  clear own6 b6
  refine hK.out _ _ ?_ (fun hHeld => ?_)
  · exact hS.out _ p6
  clear hK K
  try simp only [Act.put, List.setIfInBounds_toArray, List.set_cons_zero, List.set_cons_succ]
  refine take_w (i := 19) (d := some 4) (v := ?_) rfl (by kernel_rfl) (by kernel_rfl) (by kernel_rfl) (fun _ _ _ h => h) rfl (by rfl) ?_ (by assumption) ?_
  rotate_left
  · (intro w hSw; (try dsimp only at hSw); go_simp; (try with_reducible rfl))
  try simp only [Act.put, List.setIfInBounds_toArray, List.set_cons_zero, List.set_cons_succ]
  refine wpAnyH_done (by kernel_rfl) ?_ _
  obtain ⟨A5, c5, rfl, hr5, hA5⟩ := own_open Own.out
  obtain ⟨z00, z01⟩ := (HR8.out.q p6).2 0 _ rfl
  obtain ⟨z10, z11⟩ := (HR8.out.q p6).2 1 _ rfl
  have HF : Hid (RS = [] ++ pairsA (x, e) (e, 0) bs[0]) := by unfold Hid; rw [HW.out, ← HB1.out]; rfl
  obtain ⟨⟨y0, y1⟩, hrd, hqw⟩ := way_close (w := w) (l := [] ++ pairsA (x, e) (e, 0) bs[0]) (.int .i64 1) (.slice A5 ([] ++ pairsA (x, e) (e, 0) bs[0]).length c5) (HR8.out.q p6) (Nat.le_refl _) (HQ0.out.trans p6) hr5 (fun _ ad ha => Nat.ne_of_gt (Nat.lt_of_lt_of_le HR8.out.1 (hA5 ad ha)))
  have Y0 := Lib.hid y0
  have Y1 := Lib.hid y1
  have HRD := Lib.hid hrd
  have HQW := Lib.hid hqw
  have HFA := Lib.hid hA5
  clear y0 y1 hrd hqw hr5 hA5
  generalize [] ++ pairsA (x, e) (e, 0) bs[0] = P at *
  go_wp2_with fail
  have y0 := Y0.out
  have y1 := Y1.out
  exact bodyPost_ret (v := .agg #[.int .i64 1, .slice A5 P.length c5]) (by simp [results, Try.f55, go_sem, y0, y1]) rfl ⟨_, _, by rw [HF.out], by rw [HF.out]; exact HRD.out, HQW.out, fun ad ha => Nat.le_trans HQ0.out.size (HFA.out ad ha)⟩
end Go.Proofs.Ytjehccemilefgaa.St
