/-
  What the proofs lean on, part 2 of 17.
-/
import Derived.Test.YtjmopbimleoidaaGreatPa
import Derived.Maps.AppendAt
import Derived.Deep.AppendLies
import Derived.Deep.RegionLaw
import Derived.RegionTactic
import Derived.OwnWalk
import Derived.Laws.CopyOwn
import Derived.Laws.MakeOwn
import Derived.Laws.OwnMore
import Derived.Lib.AppendZeros
import Derived.Lib.SliceRun
import Derived.Deep.RegionHeld3
import Derived.Deep.Matrix
import Derived.Deep.SlicePairs
import Derived.Lib.SmallJoins
import Derived.SizedLaws
namespace Go.Proofs.YtjmopbimleoidaaGreat.Kit
open Go.RowKit

/-- the cells that a slice value reads -/
def Src (w : World) (A : Option Addr) (cs : List Value) : Prop := 0 < cs.length → ∃ ad, A = some ad ∧ ∀ j v, cs[j]? = some v → w.cell? (ad.add j) = some v
theorem Src.keep {w w' : World} {A : Option Addr} {cs : List Value} {B : Nat} (h : Src w A cs) (hb : Below B w w') (hlt : ∀ ad, A = some ad → ad.block < B) : Src w' A cs := fun h0 => by
  obtain ⟨ad, e, hc⟩ := h h0
  refine ⟨ad, e, fun j v hv => (hb.cell ?_).trans (hc j v hv)⟩
  have : (ad.add j).block = ad.block := by unfold Addr.add; split <;> rfl
  rw [this]; exact hlt ad e

section
variable {P : Program} (w : World)
theorem run_append_none (base : Nat) (t ty e : TypeId) (i : TypeInfo) (size : Nat) (ht : P.underlying t = some (.slice e)) (hi : P.info? e = some i)
    (v : Value) (n : Nat) (xs : List Value) (hown : w.ownsRow base e size v n xs) (c : Nat) : (Builtin.append_ #[t, t] ty #[v, .slice none 0 c]).run P w = .ok v w := by
  obtain ⟨_, ⟨rfl, rfl⟩ | ⟨g, cap, cur, rfl, _, _, hnc, _⟩⟩ := hown
  · simp [Builtin.append_, run_underlying ht, sizeOf, typeInfo, hi, Builtin.lenOf, Builtin.firstCells]
  · simp [Builtin.append_, run_underlying ht, sizeOf, typeInfo, hi, Builtin.lenOf, Builtin.firstCells, hnc, storeCells]
theorem run_append_src (base : Nat) (t ty e : TypeId) (i : TypeInfo) (z : Value) (size bytes : Nat) (ht : P.underlying t = some (.slice e)) (hi : P.info? e = some i) (hz : i.zero = some z)
    (hsize : i.size = size) (hby : i.bytes = bytes) (hzs : z.cells.size = size) (hsz : 0 < size)
    (v : Value) (n : Nat) (xs : List Value) (hown : w.ownsRow base e size v n xs)
    (A : Option Addr) (m c : Nat) (cs : List Value) (hl : cs.length = m * size) (hc : Src w A cs) (h1 : ∀ u ∈ cs, u.oneCell' = true)
    (h63 : n + m ≤ maxLen) (hbytes : (n + m) * bytes ≤ 140737488355328) (hbase : base ≤ w.heap.size) :
    ∃ v' w', (Builtin.append_ #[t, t] ty #[v, .slice A m c]).run P w = .ok v' w' ∧ w'.ownsRow base e size v' (n + m) (xs ++ cs) ∧ w.grownBy w' v.ownBlock ∧
      (v'.ownBlock = v.ownBlock ∨ v'.ownBlock = some w.heap.size) := by
  cases A with
  | none =>
    have h0 : ¬ 0 < cs.length := fun h => by obtain ⟨ad, e, _⟩ := hc h; cases e
    obtain rfl : cs = [] := List.eq_nil_of_length_eq_zero (by omega)
    have hm : m = 0 := by
      rcases Nat.eq_zero_or_pos m with e | e
      · exact e
      · have := Nat.mul_pos e hsz
        simp at hl
        omega
    subst hm
    exact ⟨v, w, run_append_none w base t ty e i size ht hi v n xs hown c, by simpa using hown, World.grownBy.refl w _, .inl rfl⟩
  | some ad =>
    have hn : ∀ j u, cs[j]? = some u → w.cell? (ad.add j) = some u := fun j u hu => by
      have hj := (List.getElem?_eq_some_iff.1 hu).1
      obtain ⟨ad', e, h⟩ := hc (by omega)
      injection e with e
      subst e
      exact h j u hu
    obtain ⟨v', w', hr, h2, h3, _, h5⟩ := run_append_own_at (P := P) w base t ty e i z size bytes ht hi hz hsize hby hzs hsz v n xs hown ad m c cs hl hn h1 h63 hbytes hbase
    exact ⟨v', w', hr, h2, h3, h5⟩
theorem wp_append_src {o : Oper} {a : Act} {K : Act → World → Prop} {R : Exit → Act → World → Prop} (s x : Operand) (t : TypeId)
    (ho : o.op = .call { callee := .builtin .append, args := #[s, x], argTypes := #[t, t] })
    (base : Nat) (e : TypeId) (i : TypeInfo) (z : Value) (size bytes : Nat) (ht : P.underlying t = some (.slice e)) (hi : P.info? e = some i) (hz : i.zero = some z)
    (hsize : i.size = size) (hby : i.bytes = bytes) (hzs : z.cells.size = size) (hsz : 0 < size)
    (v : Value) (n : Nat) (xs : List Value) (hs : a.eval s = v) (hown : w.ownsRow base e size v n xs)
    (A : Option Addr) (m c : Nat) (cs : List Value) (hx : a.eval x = .slice A m c) (hl : cs.length = m * size) (hc : Src w A cs) (h1 : ∀ u ∈ cs, u.oneCell' = true)
    (h63 : n + m ≤ maxLen) (hbytes : (n + m) * bytes ≤ 140737488355328) (hbase : base ≤ w.heap.size)
    (h : ∀ v' w', w'.ownsRow base e size v' (n + m) (xs ++ cs) → w.grownBy w' v.ownBlock → (v'.ownBlock = v.ownBlock ∨ v'.ownBlock = some w.heap.size) → K (a.put o.dst v') w') : o.wp P a w K R := by
  obtain ⟨v', w', hrun, h2, h3, h4⟩ := run_append_src (P := P) w base t o.type e i z size bytes ht hi hz hsize hby hzs hsz v n xs hown A m c cs hl hc h1 h63 hbytes hbase
  unfold Oper.wp execOp
  simp only [ho, resolve, invoke, builtin, Sem.run_bind, Sem.run_pure, Result.andThen_ok, List.map_toArray, List.map_cons, List.map_nil, hs, hx, hrun]
  exact h v' w' h2 h3 h4
theorem wpList_append_src {ops : Array Oper} {rest : List Oper} {o : Oper} {a : Act} {R : Exit → Act → World → Prop} (hgd : o.guard = none) (s x : Operand) (t : TypeId)
    (ho : o.op = .call { callee := .builtin .append, args := #[s, x], argTypes := #[t, t] })
    (base : Nat) (e : TypeId) (i : TypeInfo) (z : Value) (size bytes : Nat) (ht : P.underlying t = some (.slice e)) (hi : P.info? e = some i) (hz : i.zero = some z)
    (hsize : i.size = size) (hby : i.bytes = bytes) (hzs : z.cells.size = size) (hsz : 0 < size)
    (v : Value) (n : Nat) (xs : List Value) (hs : a.eval s = v) (hown : w.ownsRow base e size v n xs)
    (A : Option Addr) (m c : Nat) (cs : List Value) (hx : a.eval x = .slice A m c) (hl : cs.length = m * size) (hc : Src w A cs) (h1 : ∀ u ∈ cs, u.oneCell' = true)
    (h63 : n + m ≤ maxLen) (hbytes : (n + m) * bytes ≤ 140737488355328) (hbase : base ≤ w.heap.size)
    (h : ∀ v' w', w'.ownsRow base e size v' (n + m) (xs ++ cs) → w.grownBy w' v.ownBlock → (v'.ownBlock = v.ownBlock ∨ v'.ownBlock = some w.heap.size) → wpList P ops R rest (a.put o.dst v') w') : wpList P ops R (o :: rest) a w :=
  wpList_plain hgd fun _ hK => wp_append_src w s x t ho base e i z size bytes ht hi hz hsize hby hzs hsz v n xs hs hown A m c cs hx hl hc h1 h63 hbytes hbase fun v' w' h2 h3 h4 => hK _ _ (h v' w' h2 h3 h4)
theorem step_append_src {ops : Array Oper} {o : Oper} {a : Act} {K : Act → World → Prop} {R : Exit → Act → World → Prop} {E : Prop} (hgd : o.guard = none) (s x : Operand) (t : TypeId)
    (ho : o.op = .call { callee := .builtin .append, args := #[s, x], argTypes := #[t, t] })
    (base : Nat) (e : TypeId) (i : TypeInfo) (z : Value) (size bytes : Nat) (ht : P.underlying t = some (.slice e)) (hi : P.info? e = some i) (hz : i.zero = some z)
    (hsize : i.size = size) (hby : i.bytes = bytes) (hzs : z.cells.size = size) (hsz : 0 < size)
    (v : Value) (n : Nat) (xs : List Value) (hs : a.eval s = v) (hown : w.ownsRow base e size v n xs)
    (A : Option Addr) (m c : Nat) (cs : List Value) (hx : a.eval x = .slice A m c) (hl : cs.length = m * size) (hc : Src w A cs) (h1 : ∀ u ∈ cs, u.oneCell' = true)
    (h63 : n + m ≤ maxLen) (hbytes : (n + m) * bytes ≤ 140737488355328) (hbase : base ≤ w.heap.size)
    (h : ∀ v' w', w'.ownsRow base e size v' (n + m) (xs ++ cs) → w.grownBy w' v.ownBlock → (v'.ownBlock = v.ownBlock ∨ v'.ownBlock = some w.heap.size) → K (a.put o.dst v') w') :
    if Region.wanted o (yielded ops a.tmps) = true then Oper.wp P o a w K R else E := by
  have hw : Region.wanted o (yielded ops a.tmps) = true := by simp [Region.wanted, hgd]
  rw [if_pos hw]
  exact wp_append_src w s x t ho base e i z size bytes ht hi hz hsize hby hzs hsz v n xs hs hown A m c cs hx hl hc h1 h63 hbytes hbase h
end

/-- a block of no cells, made by the call, is an empty row of its own -/
theorem own_empty {w : World} {base g : Nat} {e : TypeId} {size : Nat} (hb : base ≤ g) (hg : w.heap[g]? = some (.cells #[] e (0, 0))) : w.ownsRow base e size (.slice (some ⟨g, 0, none⟩) 0 0) 0 [] :=
  ⟨by simp, .inr ⟨g, 0, #[], rfl, hb, hg, Nat.le_refl _, Nat.zero_le _, by simp, by simp⟩⟩
theorem heap_two_old (W : World) (a b : Obj) : ((W.alloc a).alloc b).heap[W.heap.size]? = some a := (Below.heap_alloc _ _ _ (by simp)).trans (heap_alloc_new W a)
theorem heap_two_new (W : World) (a b : Obj) : ((W.alloc a).alloc b).heap[W.heap.size + 1]? = some b := by simpa using heap_alloc_new (W.alloc a) b
/-- the cells of a block that is known whole -/
theorem src_block {w : World} {g : Nat} {cs : Array Value} {t : TypeId} {fr : Nat × Nat} (hg : w.heap[g]? = some (.cells cs t fr)) : Src w (some ⟨g, 0, none⟩) cs.toList :=
  fun _ => ⟨_, rfl, World.news_of_block hg⟩
end Go.Proofs.YtjmopbimleoidaaGreat.Kit

namespace Go.Proofs.YtjmopbimleoidaaGreat.Hs
open Go.RowKit Kit

/-- a slice value that reads these cells, below block B -/
def SrcB (w : World) (B : Nat) (A : Option Addr) (cs : List Value) : Prop := 0 < cs.length → ∃ ad, A = some ad ∧ ad.block < B ∧ ∀ j v, cs[j]? = some v → w.cell? (ad.add j) = some v
theorem SrcB.keep {w w' : World} {B : Nat} {A : Option Addr} {l : List Value} (h : SrcB w B A l) (hb : Below B w w') : SrcB w' B A l := fun h0 => by
  obtain ⟨ad, e, hlt, hc⟩ := h h0
  exact ⟨ad, e, hlt, fun i s hs => (hb.cell (by rw [add_block]; exact hlt)).trans (hc i s hs)⟩
theorem SrcB.src {w : World} {B : Nat} {A : Option Addr} {l : List Value} (h : SrcB w B A l) : Src w A l := fun h0 => by
  obtain ⟨ad, e, _, hc⟩ := h h0
  exact ⟨ad, e, hc⟩
theorem SrcB.more {w : World} {B B' : Nat} {A : Option Addr} {l : List Value} (h : SrcB w B A l) (hB : B ≤ B') : SrcB w B' A l := fun h0 => by
  obtain ⟨ad, e, hlt, hc⟩ := h h0
  exact ⟨ad, e, by omega, hc⟩
theorem sliceInfo : (Tryz.prog.info? 24).map (fun i => (i.zero, i.size, i.bytes)) = some (some (.slice none 0 0), 1, 24) := by kernel_rfl
def ClonePost (sl : List Int) (w : World) (e : Ending) (w' : World) : Prop :=
  ∃ A c, e = .returned (.slice A sl.length c) ∧ (0 < sl.length → ∃ g, A = some ⟨g, 0, none⟩ ∧ w.heap.size ≤ g ∧ OwnI w' g sl) ∧ Q w w'
def cellsI (sl : List Int) : List Value := sl.map (Value.int .i64)
theorem cellsI_get {sl : List Int} {j : Nat} {v : Value} (h : (cellsI sl)[j]? = some v) : ∃ x, sl[j]? = some x ∧ v = .int .i64 x := by
  unfold cellsI at h
  rw [List.getElem?_map, Option.map_eq_some_iff] at h
  obtain ⟨x, h1, h2⟩ := h
  exact ⟨x, h1, h2.symm⟩
theorem cellsI_one (sl : List Int) : ∀ u ∈ cellsI sl, u.oneCell' = true := fun u hu => by
  unfold cellsI at hu
  rw [List.mem_map] at hu
  obtain ⟨x, _, rfl⟩ := hu
  rfl
theorem Ints.srcB {w : World} {B : Nat} {A : Option Addr} {sl : List Int} (h : Ints w B A sl) : SrcB w B A (cellsI sl) := fun h0 => by
  obtain ⟨ad, e, hlt, hc⟩ := h (by simpa [cellsI] using h0)
  refine ⟨ad, e, hlt, fun j v hv => ?_⟩
  obtain ⟨x, hx, rfl⟩ := cellsI_get hv
  exact hc j x hx
theorem OwnI.of_own {w : World} {base g n cap : Nat} {e : TypeId} {sl : List Int} (h : w.ownsRow base e 1 (.slice (some ⟨g, 0, none⟩) n cap) n (cellsI sl)) : OwnI w g sl := by
  refine ⟨(h.lt g rfl).2, fun i x hx => ⟨?_, h.frozenAt i⟩⟩
  have := h.cells (g := g) rfl i (.int .i64 x) (by unfold cellsI; rw [List.getElem?_map, hx]; rfl)
  rwa [add_zero_head] at this

set_option maxRecDepth 100000 in
set_option maxHeartbeats 1000000 in
theorem clone_any (A : Option Addr) (n c : Nat) (sl : List Int) (w : World) (hn : n = sl.length) (hr : Ints w w.heap.size A sl) (hl : sl.length ≤ 100000) :
    Calls Tryz.prog 119 #[.slice A n c] w (ClonePost sl w) := by
  subst hn
  have heq := fun u => Lib.run_eql_slice_nil (P := Tryz.prog) u 24 3 A sl.length c 0 0 Tryz.underlying24
  cases A with
  | none =>
    have e : sl = [] := by
      rcases Nat.eq_zero_or_pos sl.length with h | h
      · exact List.eq_nil_of_length_eq_zero h
      · obtain ⟨_, e, _⟩ := hr h; cases e
    subst e
    have heq' : ∀ u, (binOp .eql 24 (.slice none 0 c) (.slice none 0 0)).run Tryz.prog u = .ok (.bool true) u := heq
    clear heq hr hl
    go_enter Tryz.func119, Tryz.ntmps119
    go_wp2_with fail
    go_ret
    exact ⟨none, 0, rfl, fun h => by simp at h, Q.refl _⟩
  | some ad =>
    have heq' : ∀ u, (binOp .eql 24 (.slice (some ad) sl.length c) (.slice none 0 0)).run Tryz.prog u = .ok (.bool false) u := heq
    obtain ⟨i0, hi, hz0, hz1, hz2⟩ := info_parts intInfo
    have Hi := Lib.hid hi
    have Hz0 := Lib.hid hz0
    have Hz1 := Lib.hid hz1
    have Hz2 := Lib.hid hz2
    have Hs := Lib.hid (hr.srcB.keep ((Q.refl w).alloc (Obj.cells #[] 3)))
    have Ho := Lib.hid (own_empty (base := w.heap.size) (e := 3) (size := 1) (Nat.le_refl _) (heap_alloc_new w (Obj.cells #[] 3)))
    clear heq hi hz0 hz1 hz2 hr
    go_enter Tryz.func119, Tryz.ntmps119
    go_wp2_with (at_builtin; refine wpList_append_src _ rfl (.tmp 5) (.tmp 6) _ rfl w.heap.size 3 i0 _ 1 8 Tryz.underlying24 Hi.out Hz0.out Hz1.out Hz2.out rfl (by omega) (.slice (some ⟨w.heap.size, 0, none⟩) 0 0) 0 [] rfl Ho.out (some ad) sl.length c (cellsI sl) rfl (by simp [cellsI]) Hs.out.src (cellsI_one sl) (by unfold maxLen; omega) (by omega) (by simp) ?_; intro v' w' own' gr' _)
    have q2 : Q w w' := ((Q.refl w).alloc (Obj.cells #[] 3)).grown gr' (by simp) (by simp [Value.ownBlock])
    rw [Nat.zero_add, List.nil_append] at own'
    have Ho' := Lib.hid own'
    clear own' gr'
    go_wp2_with fail
    go_ret
    have own' := Ho'.out
    have own2 := own'
    obtain ⟨_, ⟨rfl, hx⟩ | ⟨g, cap, cur, rfl, hg, _⟩⟩ := own'
    · have e : sl.length = 0 := hx
      exact ⟨none, 0, by rw [e]; rfl, fun h => by omega, q2⟩
    · exact ⟨_, cap, rfl, fun _ => ⟨g, rfl, hg, OwnI.of_own own2⟩, q2⟩
end Go.Proofs.YtjmopbimleoidaaGreat.Hs

namespace Go.Proofs.YtjmopbimleoidaaGreat.Hs
open Go.RowKit Kit

/-- the values of a row's cells -/
theorem Keys.vals {w : World} {B : Nat} {A : Option Addr} {ks : List (List Int)} (h : Keys w B A ks) :
    ∃ vs : List Value, vs.length = ks.length ∧ SrcB w B A vs ∧ ∀ (i : Nat) (k : List Int), ks[i]? = some k → ∃ a c, k.length ≤ c ∧ vs[i]? = some (Value.slice a k.length c) ∧ Ints w B a k := by
  rcases Nat.eq_zero_or_pos ks.length with h0 | h0
  · obtain rfl := List.eq_nil_of_length_eq_zero h0
    exact ⟨[], rfl, fun h => by simp at h, fun i k hk => by simp at hk⟩
  · obtain ⟨ad, e, hlt, hc⟩ := h h0
    have hv : ∀ (i : Nat) (k : List Int), ks[i]? = some k → ∃ a c, k.length ≤ c ∧ ((List.range ks.length).map fun i => (w.cell? (ad.add i)).getD undef)[i]? = some (Value.slice a k.length c) ∧ w.cell? (ad.add i) = some (Value.slice a k.length c) ∧ Ints w B a k := fun i k hk => by
      obtain ⟨a, c, hle, c0, hi⟩ := hc i k hk
      have hil := (List.getElem?_eq_some_iff.1 hk).1
      exact ⟨a, c, hle, by simp [hil, c0], c0, hi⟩
    refine ⟨(List.range ks.length).map fun i => (w.cell? (ad.add i)).getD undef, by simp, fun _ => ⟨ad, e, hlt, fun j v hj => ?_⟩, fun i k hk => ?_⟩
    · have hjl : j < ks.length := by have := (List.getElem?_eq_some_iff.1 hj).1; simpa using this
      obtain ⟨a, c, _, h1, h2, _⟩ := hv j ks[j] (List.getElem?_eq_getElem hjl)
      rw [h1] at hj
      rw [h2, hj]
    · obtain ⟨a, c, hle, h1, _, h3⟩ := hv i k hk
      exact ⟨a, c, hle, h1, h3⟩
theorem vals_one {w : World} {B : Nat} {ks : List (List Int)} {vs : List Value} (hl : vs.length = ks.length) (h : ∀ (i : Nat) (k : List Int), ks[i]? = some k → ∃ a c, k.length ≤ c ∧ vs[i]? = some (Value.slice a k.length c) ∧ Ints w B a k) : ∀ u ∈ vs, u.oneCell' = true := fun u hu => by
  obtain ⟨i, hi, rfl⟩ := List.getElem_of_mem hu
  obtain ⟨a, c, _, e, _⟩ := h i ks[i] (List.getElem?_eq_getElem (by omega))
  rw [List.getElem?_eq_getElem hi] at e
  injection e with e
  rw [e]
  rfl

def cutAt (A : Option Addr) (c n : Nat) : Option Addr := if c = n then A else A.map (·.add n)
theorem mem_len {ks : List (List Int)} {k : List Int} (h : k ∈ ks) : k.length ≤ ks.flatten.length := by
  induction ks with
  | nil => cases h
  | cons x l ih =>
    rw [List.flatten_cons, List.length_append]
    rcases List.mem_cons.1 h with rfl | h
    · omega
    · have := ih h; omega
theorem slice_l (A : Option Addr) (n c l : Nat) (h : l ≤ n) (u : World) : (Instr.slice 24 (.slice A n c) (some (.int .i64 (l : Int))) none none).run Tryz.prog u = .ok (.slice (cutAt A c l) (n - l) (c - l)) u := by
  obtain ⟨i0, hi, hz0, hz1, hz2⟩ := info_parts intInfo
  simp [Instr.slice, run_underlying Tryz.underlying24, Instr.sliceBounds, Instr.sliceBound, asIntOf, sizeOf, typeInfo, hi, hz1, h, cutAt]

theorem own_form {w : World} {base n : Nat} {e : TypeId} {v : Value} {xs : List Value} (h : w.ownsRow base e 1 v n xs) :
    ∃ A c, v = .slice A n c ∧ n ≤ c ∧ (0 < n → ∃ g, A = some ⟨g, 0, none⟩ ∧ base ≤ g ∧ g < w.heap.size ∧ ∀ j u, xs[j]? = some u → w.cell? ⟨g, j, none⟩ = some u ∧ w.frozen? ⟨g, j, none⟩ = false) := by
  have h2 := h
  obtain ⟨hl, ⟨rfl, rfl⟩ | ⟨g, cap, cur, rfl, hg, hh, hc, _⟩⟩ := h
  · exact ⟨none, 0, rfl, Nat.le_refl _, fun h => by omega⟩
  · refine ⟨_, cap, rfl, hc, fun _ => ⟨g, rfl, hg, (Array.getElem?_eq_some_iff.1 hh).1, fun j u hu => ⟨?_, h2.frozenAt j⟩⟩⟩
    have := h2.cells (g := g) rfl j u hu
    rwa [add_zero_head] at this

end Go.Proofs.YtjmopbimleoidaaGreat.Hs

namespace Go.Proofs.YtjmopbimleoidaaGreat.Hs
open Go.RowKit Kit

def SameAsPost (ks : List (List Int)) (key : List Int) (w : World) (e : Ending) (w' : World) : Prop :=
  ∃ Bk Be, e = .returned (.func (.func 154) #[] #[.pointer (some ⟨Bk, 0, none⟩), .pointer (some ⟨Be, 0, none⟩)]) ∧ Q w w' ∧
    ∀ x W, Q w' W → Calls Tryz.prog 154 #[.int .i64 x, .pointer (some ⟨Bk, 0, none⟩), .pointer (some ⟨Be, 0, none⟩)] W fun e W' => e = .returned (.bool (sameP ks key x)) ∧ ∃ d, W' = W.drewN d
theorem sameAsQ_any (A E : Option Addr) (n c n' c' : Nat) (ks : List (List Int)) (key : List Int) (w : World) (hn : n = ks.length) (hn' : n' = key.length) (hk : Keys w w.heap.size A ks) (he : Ints w w.heap.size E key) (hs : ∀ k ∈ ks, k.length ≤ maxLen) :
    Calls Tryz.prog 125 #[.slice A n c, .slice E n' c'] w (SameAsPost ks key w) := by
  subst hn
  subst hn'
  refine (sameAs_any A E _ c _ c' w).mono ?_
  rintro e w' ⟨rfl, rfl⟩
  have q := ((Q.refl w).alloc (.cells #[.slice A ks.length c] 23)).alloc (.cells #[.slice E key.length c'] 24)
  have b1 := (Boxed.new w 23 (.slice A ks.length c)).alloc (.cells #[.slice E key.length c'] 24)
  have b2 := Boxed.new (w.alloc (.cells #[.slice A ks.length c] 23)) 24 (.slice E key.length c')
  rw [World.size_alloc] at b2
  refine ⟨_, _, rfl, q, fun x W hW => ?_⟩
  have q' := q.trans hW
  exact same1_any w.heap.size (w.heap.size + 1) A E c c' ks key x W ((hk.q (Nat.le_refl _) q').more q'.size) ((he.q (Nat.le_refl _) q').more q'.size) hs ((hW.cell (p := ⟨w.heap.size, 0, none⟩) b1.lt).trans b1.cell) ((hW.cell (p := ⟨w.heap.size + 1, 0, none⟩) b2.lt).trans b2.cell)

set_option maxRecDepth 100000 in
set_option maxHeartbeats 1000000 in
theorem find_any (A S E : Option Addr) (n c m d ke ce : Nat) (ks : List (List Int)) (sl key : List Int) (w : World) (hn : n = ks.length) (hm : m = sl.length) (hke : ke = key.length) (hk : Keys w w.heap.size A ks) (hS : Ints w w.heap.size S sl) (he : Ints w w.heap.size E key)
    (hs : ∀ k ∈ ks, k.length ≤ maxLen) (hkl : key.length ≤ maxLen) (hsl : sl.length ≤ 100000000) :
    Calls Tryz.prog 89 #[.agg #[.slice A n c, .slice S m d], .slice E ke ce] w fun e w' => e = .returned (.int .i64 (seekI (sameP ks key) sl (hashN key)).2) ∧ Q w w' := by
  subst hn
  subst hm
  subst hke
  have q0 := (Q.refl w).alloc (Obj.cells #[Value.slice A ks.length c, Value.slice S sl.length d] 26)
  have Hk := Lib.hid ((hk.q (Nat.le_refl _) q0).more q0.size)
  have HS := Lib.hid ((hS.q (Nat.le_refl _) q0).more q0.size)
  have He := Lib.hid ((he.q (Nat.le_refl _) q0).more q0.size)
  have Hs := Lib.hid hs
  clear hk hS he hs
  go_enter Tryz.func89, Tryz.ntmps89
  go_wp2_with fail
  have k0 : (w.alloc (Obj.cells #[Value.slice A ks.length c, Value.slice S sl.length d] 26)).cell? ⟨w.heap.size, 0, none⟩ = some (.slice A ks.length c) := by simp
  have k1 : (w.alloc (Obj.cells #[Value.slice A ks.length c, Value.slice S sl.length d] 26)).cell? ⟨w.heap.size, 1, none⟩ = some (.slice S sl.length d) := by simp
  have hlt : w.heap.size < (w.alloc (Obj.cells #[Value.slice A ks.length c, Value.slice S sl.length d] 26)).heap.size := by simp
  generalize w.alloc (Obj.cells #[Value.slice A ks.length c, Value.slice S sl.length d] 26) = W0 at *
  go_region_held3 (fun w' => w'.cell? ⟨w.heap.size, 0, none⟩ = some (.slice A ks.length c) ∧ w'.cell? ⟨w.heap.size, 1, none⟩ = some (.slice S sl.length d))
    (first
      | go_keep
      | exact ⟨(p1.cell (p := ⟨w.heap.size, 0, none⟩) hlt).trans k0, (p1.cell (p := ⟨w.heap.size, 1, none⟩) hlt).trans k1⟩
      | exact ⟨((p1.trans q2).cell (p := ⟨w.heap.size, 0, none⟩) hlt).trans k0, ((p1.trans q2).cell (p := ⟨w.heap.size, 1, none⟩) hlt).trans k1⟩)
    (first
      | (go_at_call 124; refine (hashN_any _ _ _ key _ rfl (by exact He.out) hkl).mono ?_; rintro e w' ⟨rfl, rfl⟩)
      | (go_at_call 125; refine (sameAsQ_any _ _ _ _ _ _ ks key _ rfl rfl (by exact Hk.out) (by exact He.out) Hs.out).mono ?_; rintro e w1 ⟨Bk, Be, rfl, q1, hC⟩; have HC := Lib.hid hC; clear hC; have p1 := (Q.refl W0).drew.trans q1)
      | (go_at_call 123; refine (seek_same _ _ _ sl _ (sameP ks key) Bk Be _ rfl (by exact ((HS.out.q (Nat.le_refl _) p1).more p1.size)) (hashN_lt _) hsl HC.out).mono ?_; rintro e w2 ⟨rfl, q2⟩))
  go_wp2_with fail
  go_ret
  exact ⟨rfl, (q0.trans p1).trans q2⟩
end Go.Proofs.YtjmopbimleoidaaGreat.Hs

namespace Go.Proofs.YtjmopbimleoidaaGreat.Hs
open Go.RowKit Kit

end Go.Proofs.YtjmopbimleoidaaGreat.Hs

namespace Go.Proofs.YtjmopbimleoidaaGreat.Hs
open Go.RowKit Kit

/-- where a key stands in a row, from i on; -1 -/
def atF (key : List Int) : List (List Int) → Nat → Int
  | [], _ => -1
  | k :: l, i => if eqL k key then (i : Int) else atF key l (i + 1)
def atI (ks : List (List Int)) (key : List Int) : Int := atF key ks 0
theorem atF_at (key : List Int) (ks : List (List Int)) (i : Nat) (h : i < ks.length) : atF key (ks.drop i) i = if eqL ks[i] key then (i : Int) else atF key (ks.drop (i + 1)) (i + 1) := by
  rw [List.drop_eq_getElem_cons h]; rfl
theorem atF_end (key : List Int) (ks : List (List Int)) (i : Nat) (h : ks.length ≤ i) : atF key (ks.drop i) i = -1 := by
  rw [List.drop_eq_nil_of_le h]; rfl
theorem atF_spec (key : List Int) : ∀ (ks : List (List Int)) (k : Nat), (atF key ks k = -1 ∧ ∀ (i : Nat) (x : List Int), ks[i]? = some x → x ≠ key) ∨ ∃ i : Nat, ks[i]? = some key ∧ atF key ks k = ((k + i : Nat) : Int) ∧ ∀ (j : Nat) (x : List Int), j < i → ks[j]? = some x → x ≠ key
  | [], _ => .inl ⟨rfl, fun i x h => by simp at h⟩
  | y :: l, k => by
    rw [atF]
    cases he : eqL y key
    · have hne : y ≠ key := fun e => by rw [(eqL_iff y key).2 e] at he; cases he
      simp only [Bool.false_eq_true, if_false]
      rcases atF_spec key l (k + 1) with ⟨h1, h2⟩ | ⟨i, h1, h2, h3⟩
      · refine .inl ⟨h1, fun i x hx => ?_⟩
        cases i with
        | zero => obtain rfl : y = x := by simpa using hx
                  exact hne
        | succ i => exact h2 i x (by simpa using hx)
      · refine .inr ⟨i + 1, by simpa using h1, by rw [h2]; congr 1; omega, fun j x hj hx => ?_⟩
        cases j with
        | zero => obtain rfl : y = x := by simpa using hx
                  exact hne
        | succ j => exact h3 j x (by omega) (by simpa using hx)
    · rw [if_pos rfl]
      exact .inr ⟨0, by simp [(eqL_iff y key).1 he], by simp, fun j x hj => by omega⟩
/-- none of a row's keys is the same as another -/
def Dist (ks : List (List Int)) : Prop := ∀ (i j : Nat) (x : List Int), ks[i]? = some x → ks[j]? = some x → i = j
theorem atI_some {ks : List (List Int)} {key : List Int} {i : Nat} (hd : Dist ks) (h : ks[i]? = some key) : atI ks key = i := by
  rcases atF_spec key ks 0 with ⟨_, h2⟩ | ⟨j, h1, h2, _⟩
  · exact absurd rfl (h2 i key h)
  · unfold atI; rw [h2, hd i j key h h1]; omega
theorem atI_cases (ks : List (List Int)) (key : List Int) : (atI ks key = -1 ∧ ∀ (i : Nat) (x : List Int), ks[i]? = some x → x ≠ key) ∨ ∃ i : Nat, ks[i]? = some key ∧ atI ks key = i := by
  rcases atF_spec key ks 0 with h | ⟨i, h1, h2, _⟩
  · exact .inl h
  · exact .inr ⟨i, h1, by unfold atI; rw [h2]; omega⟩

theorem sameP_nat (ks : List (List Int)) (key : List Int) (i : Nat) : sameP ks key (i : Int) = true ↔ ks[i]? = some key := by
  unfold sameP
  by_cases h : i < ks.length
  · simp only [Int.natCast_nonneg, decide_true, Int.toNat_natCast, Bool.true_and, show ((i : Int) < (ks.length : Int)) = True by simp [h], List.getElem?_eq_getElem h, Option.getD_some, eqL_iff, Option.some.injEq]
  · rw [List.getElem?_eq_none (by omega)]
    simp [h]
theorem sameP_none {ks : List (List Int)} {key : List Int} (h : ∀ (i : Nat) x, ks[i]? = some x → x ≠ key) : sameP ks key = nv := by
  funext x
  cases he : sameP ks key x
  · rfl
  · have h0 : 0 ≤ x := by unfold sameP at he; simp only [Bool.and_eq_true, decide_eq_true_eq] at he; exact he.1.1
    obtain ⟨i, rfl⟩ := Int.eq_ofNat_of_zero_le h0
    exact absurd rfl (h i key ((sameP_nat ks key i).1 he))
structure Inv (ks : List (List Int)) (n : Nat) (sl : List Int) : Prop where
  range : ∀ (s : Nat) (v : Int), sl[s]? = some v → 0 ≤ v ∧ v ≤ n
  path : ∀ (i : Nat) (k : List Int), i < n → ks[i]? = some k → ∃ J, J < sl.length ∧ sl[(hashN k + J) % sl.length]? = some ((i : Int) + 1) ∧ ∀ j, j < J → sl[(hashN k + j) % sl.length]? ≠ some 0
  few : nz sl ≤ n
theorem Inv.start (ks : List (List Int)) (N : Nat) : Inv ks 0 (List.replicate N 0) :=
  ⟨fun s v h => by rw [List.getElem?_replicate] at h; split at h <;> simp at h; omega, fun i k h => by omega, by rw [nz_replicate]; omega⟩
theorem Inv.step {ks : List (List Int)} {n : Nat} {sl : List Int} {key : List Int} (h : Inv ks n sl) (hn : n < sl.length) (hk : ks[n]? = some key) : Inv ks (n + 1) (putSlot sl key n) := by
  obtain ⟨J, hJ, hz, hb, hs⟩ := free_way (hashN key) (Nat.lt_of_le_of_lt h.few hn)
  have hsl : (hashN key + J) % sl.length < sl.length := Nat.mod_lt _ (by omega)
  have e : putSlot sl key n = sl.set ((hashN key + J) % sl.length) ((n : Int) + 1) := by unfold putSlot slotOf; rw [hs]; rfl
  rw [e]
  obtain ⟨s, hse⟩ : ∃ s, (hashN key + J) % sl.length = s := ⟨_, rfl⟩
  rw [hse] at hz hsl ⊢
  have other : ∀ (t : Nat) (v : Int), sl[t]? = some v → v ≠ 0 → (sl.set s ((n : Int) + 1))[t]? = some v := fun t v ht hv => by
    rw [List.getElem?_set_ne (fun e => by subst e; rw [ht] at hz; injection hz with hz; exact hv hz)]; exact ht
  have nzero : ∀ t : Nat, sl[t]? ≠ some (0 : Int) → (sl.set s ((n : Int) + 1))[t]? ≠ some (0 : Int) := fun t ht => by
    by_cases e : s = t
    · subst e; rw [List.getElem?_set_self hsl]; intro h; injection h with h; omega
    · rw [List.getElem?_set_ne e]; exact ht
  refine ⟨fun t v ht => ?_, fun i k hi hk' => ?_, Nat.le_trans (nz_set _ _ _) (Nat.succ_le_succ h.few)⟩
  · by_cases e : s = t
    · subst e; rw [List.getElem?_set_self hsl] at ht; injection ht with ht; omega
    · rw [List.getElem?_set_ne e] at ht; have := h.range t v ht; omega
  · rw [List.length_set]
    by_cases hin : i < n
    · obtain ⟨J', h1, h2, h3⟩ := h.path i k hin hk'
      exact ⟨J', h1, other _ _ h2 (by omega), fun j hj => nzero _ (h3 j hj)⟩
    · obtain rfl : i = n := by omega
      rw [hk] at hk'
      obtain rfl : key = k := by simpa using hk'
      exact ⟨J, hJ, by rw [hse, List.getElem?_set_self hsl], fun j hj => nzero _ (hb j hj)⟩
theorem layF_inv (ks : List (List Int)) : ∀ (m i : Nat) (sl : List Int), m = ks.length - i → Inv ks i sl → i ≤ ks.length → ks.length < sl.length → Inv ks ks.length (layF (ks.drop i) i sl)
  | 0, i, sl, hm, h, hi, _ => by
    rw [layF_end ks i sl (by omega), show ks.length = i by omega]; exact h
  | m + 1, i, sl, hm, h, hi, hl => by
    have hlt : i < ks.length := by omega
    rw [layF_at ks i sl hlt]
    exact layF_inv ks m (i + 1) _ (by omega) (h.step (by omega) (List.getElem?_eq_getElem hlt)) (by omega) (by rw [putSlot_length]; exact hl)
theorem lay_inv (ks : List (List Int)) : Inv ks ks.length (layI ks) := by
  have := layF_inv ks _ 0 _ rfl (Inv.start ks (sizeN ks.length)) (Nat.zero_le _) (by rw [List.length_replicate]; exact sizeN_gt _)
  simpa [layI] using this

theorem wrap_pred {v : Int} (h : 0 ≤ v ∧ v ≤ 1000000) : wrap64 (v - 1) = v - 1 := by unfold wrap64; omega

/-- a key that is there is found at its place -/
theorem find_there {ks : List (List Int)} {key : List Int} {i : Nat} {sl : List Int} (hi : Inv ks ks.length sl) (hd : Dist ks) (hl : ks.length ≤ 100000) (h : ks[i]? = some key) : ∃ s : Nat, s < sl.length ∧ seekI (sameP ks key) sl (hashN key) = ((s : Int), (i : Int)) := by
  have hin := (List.getElem?_eq_some_iff.1 h).1
  obtain ⟨J, hJ, h2, h3⟩ := hi.path i key hin h
  obtain ⟨J', h1', h2', h3'⟩ := least_of (P := fun j => sl[(hashN key + j) % sl.length]? = some ((i : Int) + 1)) (J + 1) ⟨J, by omega, h2⟩
  have hm : ∀ j, (hashN key + j) % sl.length < sl.length := fun j => Nat.mod_lt _ (by omega)
  refine ⟨(hashN key + J') % sl.length, hm J', seekI_at (J := J') (by omega) (fun j hj => ?_) ?_⟩
  · have hv := List.getElem?_eq_getElem (hm j)
    have r := hi.range _ _ hv
    have n0 := h3 j (by omega)
    have n1 := h3' j hj
    rw [hv] at n0 n1
    obtain ⟨v, hve⟩ : ∃ v, sl[(hashN key + j) % sl.length]'(hm j) = v := ⟨_, rfl⟩
    rw [hve] at hv n0 n1 r
    have n0' : v ≠ 0 := fun e => n0 (by rw [e])
    have n1' : v ≠ (i : Int) + 1 := fun e => n1 (by rw [e])
    simp only [stepOf, visit, hv, Option.getD_some]
    rw [if_neg (by simpa using n0'), wrap_pred (by omega)]
    obtain ⟨t, ht⟩ := Int.eq_ofNat_of_zero_le (show 0 ≤ v - 1 by omega)
    rw [ht]
    have hf : sameP ks key (t : Int) = false := by
      cases hs : sameP ks key (t : Int)
      · rfl
      · have := hd i t key h ((sameP_nat ks key t).1 hs)
        omega
    rw [hf]
    rfl
  · simp only [stepOf, visit, h2', Option.getD_some]
    rw [if_neg (by simp; omega), wrap_pred (by omega), show (i : Int) + 1 - 1 = i by omega, (sameP_nat ks key i).2 h]
    rfl
/-- one that isn't there comes to the first free slot of its way -/
theorem find_not {ks : List (List Int)} {key : List Int} {sl : List Int} (hi : Inv ks ks.length sl) (hl : ks.length < sl.length) (h : ∀ (i : Nat) x, ks[i]? = some x → x ≠ key) : slotOf sl key < sl.length ∧ seekI (sameP ks key) sl (hashN key) = ((slotOf sl key : Int), -1) := by
  obtain ⟨J, hJ, _, _, hs⟩ := free_way (hashN key) (Nat.lt_of_le_of_lt hi.few hl)
  have hm : (hashN key + J) % sl.length < sl.length := Nat.mod_lt _ (by omega)
  rw [sameP_none h]
  unfold slotOf
  rw [hs]
  exact ⟨hm, rfl⟩

end Go.Proofs.YtjmopbimleoidaaGreat.Hs

namespace Go.Proofs.YtjmopbimleoidaaGreat.Hs
open Go.RowKit Kit

set_option maxRecDepth 100000 in
set_option maxHeartbeats 400000 in
theorem refInts_any (A B : Option Addr) (n c n' c' : Nat) (l m : List Int) (w : World) (hn : n = l.length) (hn' : n' = m.length) (hr : Ints w w.heap.size A l) (hr' : Ints w w.heap.size B m) (hl : l.length ≤ maxLen) :
    Calls Tryz.prog 16 #[.slice A n c, .slice B n' c'] w fun e w' => e = .returned (.bool (eqL l m)) ∧ ∃ d, w' = w.drewN d := by
  subst hn
  subst hn'
  unfold maxLen at hl
  by_cases hlen : l.length = m.length
  · have HE := Lib.hid hlen
    have hne : ((l.length : Int) != (m.length : Int)) = false := by simp [hlen]
    clear hlen
    go_enter Tryz.func16, Tryz.ntmps16
    go_wp2_with fail
    go_loopw [5] (fun i wr => ∃ k : Nat, k ≤ l.length ∧ i = .int .i64 k ∧ Hid (eqL l m = eqL (l.drop k) (m.drop k)) ∧ ∃ d, wr = w.drewN d) (fun i _ => l.length - (intOf i).toNat)
    case atStart => exact ⟨0, Nat.zero_le _, rfl, Lib.hid (by simp), 0, rfl⟩
    case round =>
      obtain ⟨k, hk, rfl, HF, d, rfl⟩ := hrel
      by_cases hlt : k < l.length
      · have hlt' : k < m.length := by have := HE.out; omega
        obtain ⟨ad, rfl, hb, c0⟩ := hr.at_ hlt
        obtain ⟨ad', rfl, hb', c0'⟩ := hr'.at_ hlt'
        have HS := Lib.hid (eqL_at l m k hlt hlt')
        clear hr hr'
        cases he : (l[k] == m[k])
        · have HS' : Hid (eqL (l.drop k) (m.drop k) = false) := by have := HS.out; rw [he] at this; exact this
          have he' : (l[k] != m[k]) = true := by simpa using he
          clear he
          go_wp2_with fail
          go_region
          all_goals go_wp2_with fail
          all_goals go_ret
          all_goals exact ⟨by rw [HF.out, HS'.out]; rfl, d + 1, rfl⟩
        · have HS' : Hid (eqL (l.drop k) (m.drop k) = eqL (l.drop (k + 1)) (m.drop (k + 1))) := by have := HS.out; rw [he] at this; exact this
          have he' : (l[k] != m[k]) = false := by simpa using he
          clear he
          go_wp2_with fail
          go_region
          all_goals go_wp2_with fail
          all_goals go_roundw
          case rel => exact ⟨k + 1, by omega, by go_num, Lib.hid (HF.out.trans HS'.out), d + 1, rfl⟩
          case measure => simp [intOf]; omega
      · have HS := Lib.hid (eqL_end l m k (by omega) (by have := HE.out; omega))
        go_wp2_with fail
        go_ret
        exact ⟨by rw [HF.out, HS.out]; rfl, d, rfl⟩
  · have hne : ((l.length : Int) != (m.length : Int)) = true := by simp; omega
    have HS := Lib.hid (eqL_len hlen)
    go_enter Tryz.func16, Tryz.ntmps16
    go_wp2_with fail
    go_ret
    exact ⟨by rw [HS.out]; rfl, 0, rfl⟩

theorem drewN_add' (w : World) (a b : Nat) : (w.drewN a).drewN b = w.drewN (a + b) := by simp [World.drewN, Nat.add_assoc]

def rowsB : List (List Int) → List (List Int) → Bool
  | [], [] => true
  | x :: l, y :: m => eqL x y && rowsB l m
  | _, _ => false
theorem rowsB_iff : ∀ (l m : List (List Int)), rowsB l m = true ↔ l = m
  | [], [] => by simp [rowsB]
  | [], _ :: _ => by simp [rowsB]
  | _ :: _, [] => by simp [rowsB]
  | x :: l, y :: m => by simp [rowsB, rowsB_iff l m, eqL_iff]
theorem rowsB_len {l m : List (List Int)} (h : l.length ≠ m.length) : rowsB l m = false := by
  cases e : rowsB l m
  · rfl
  · rw [rowsB_iff] at e; subst e; exact absurd rfl h
theorem rowsB_at (l m : List (List Int)) (k : Nat) (h1 : k < l.length) (h2 : k < m.length) : rowsB (l.drop k) (m.drop k) = (eqL l[k] m[k] && rowsB (l.drop (k + 1)) (m.drop (k + 1))) := by
  rw [List.drop_eq_getElem_cons h1, List.drop_eq_getElem_cons h2]; rfl
theorem rowsB_end (l m : List (List Int)) (k : Nat) (h1 : l.length ≤ k) (h2 : m.length ≤ k) : rowsB (l.drop k) (m.drop k) = true := by
  rw [List.drop_eq_nil_of_le h1, List.drop_eq_nil_of_le h2]; rfl

set_option maxRecDepth 100000 in
set_option maxHeartbeats 1000000 in
theorem refRows_any (A B : Option Addr) (n c n' c' : Nat) (l m : List (List Int)) (w : World) (hn : n = l.length) (hn' : n' = m.length) (hr : Keys w w.heap.size A l) (hr' : Keys w w.heap.size B m) (hl : l.length ≤ maxLen) (hs : ∀ k ∈ l, k.length ≤ maxLen) :
    Calls Tryz.prog 50 #[.slice A n c, .slice B n' c'] w fun e w' => e = .returned (.bool (rowsB l m)) ∧ ∃ d, w' = w.drewN d := by
  subst hn
  subst hn'
  unfold maxLen at hl
  by_cases hlen : l.length = m.length
  · have HE := Lib.hid hlen
    have hne : ((l.length : Int) != (m.length : Int)) = false := by simp [hlen]
    clear hlen
    go_enter Tryz.func50, Tryz.ntmps50
    go_wp2_with fail
    go_loopw [5] (fun i wr => ∃ k : Nat, k ≤ l.length ∧ i = .int .i64 k ∧ Hid (rowsB l m = rowsB (l.drop k) (m.drop k)) ∧ Hid (∃ d, wr = w.drewN d)) (fun i _ => l.length - (intOf i).toNat)
    case atStart => exact ⟨0, Nat.zero_le _, rfl, Lib.hid (by simp), Lib.hid ⟨0, rfl⟩⟩
    case round =>
      obtain ⟨k, hk, rfl, HF, HD⟩ := hrel
      have hrr : Keys wr wr.heap.size A l := by obtain ⟨d, rfl⟩ := HD.out; exact hr
      have hrr' : Keys wr wr.heap.size B m := by obtain ⟨d, rfl⟩ := HD.out; exact hr'
      clear hr hr'
      by_cases hlt : k < l.length
      · have hlt' : k < m.length := by have := HE.out; omega
        obtain ⟨ad, rfl, hb, a, c1, _, c0, hi⟩ := hrr.at_ hlt
        obtain ⟨ad', rfl, hb', a', c1', _, c0', hi'⟩ := hrr'.at_ hlt'
        have HS := Lib.hid (rowsB_at l m k hlt hlt')
        have C : Hid (∀ n, Calls Tryz.prog 16 #[.slice a l[k].length c1, .slice a' m[k].length c1'] (wr.drewN n) fun e w' => e = .returned (.bool (eqL l[k] m[k])) ∧ ∃ m', w' = (wr.drewN n).drewN m') := fun n =>
          refInts_any a a' _ c1 _ c1' l[k] m[k] (wr.drewN n) rfl rfl hi hi' (hs _ (List.getElem_mem hlt))
        have j0 : (0 : Int) ≤ (k : Int) := Int.natCast_nonneg _
        have j1 : (k : Int) < (l.length : Int) := by omega
        have j2 : (k : Int) < (m.length : Int) := by omega
        clear hrr hrr' hi hi'
        cases he : eqL l[k] m[k]
        · rw [he] at C HS
          have HS' : Hid (rowsB (l.drop k) (m.drop k) = false) := HS.out
          clear HS
          go_wp2_with fail
          go_quiet (first | (go_at_call 16; exact Calls.quiet_of (C.out _)))
          go_wp2_with fail
          go_ret
          exact ⟨by rw [HF.out, HS'.out]; rfl, by obtain ⟨d, rfl⟩ := HD.out; exact ⟨_, drewN_add' _ _ _⟩⟩
        · rw [he] at C HS
          have HS' : Hid (rowsB (l.drop k) (m.drop k) = rowsB (l.drop (k + 1)) (m.drop (k + 1))) := HS.out
          clear HS
          go_wp2_with fail
          go_quiet (first | (go_at_call 16; exact Calls.quiet_of (C.out _)))
          go_wp2_with fail
          go_roundw
          case rel => exact ⟨k + 1, by omega, by go_num, Lib.hid (HF.out.trans HS'.out), Lib.hid (by obtain ⟨d, rfl⟩ := HD.out; exact ⟨_, drewN_add' _ _ _⟩)⟩
          case measure => simp [intOf]; omega
      · have HS := Lib.hid (rowsB_end l m k (by omega) (by have := HE.out; omega))
        go_wp2_with fail
        go_ret
        exact ⟨by rw [HF.out, HS.out]; rfl, HD.out⟩
  · have hne : ((l.length : Int) != (m.length : Int)) = true := by simp; omega
    have HS := Lib.hid (rowsB_len hlen)
    go_enter Tryz.func50, Tryz.ntmps50
    go_wp2_with fail
    go_ret
    exact ⟨by rw [HS.out]; rfl, 0, rfl⟩

set_option maxRecDepth 100000 in
set_option maxHeartbeats 1000000 in
theorem refAt_any (A E : Option Addr) (n c ke ce : Nat) (ks : List (List Int)) (key : List Int) (w : World) (hn : n = ks.length) (hke : ke = key.length) (hr : Keys w w.heap.size A ks) (he : Ints w w.heap.size E key) (hl : ks.length ≤ maxLen) (hs : ∀ k ∈ ks, k.length ≤ maxLen) :
    Calls Tryz.prog 53 #[.slice A n c, .slice E ke ce] w fun e w' => e = .returned (.int .i64 (atI ks key)) ∧ ∃ d, w' = w.drewN d := by
  subst hn
  subst hke
  unfold maxLen at hl
  go_enter Tryz.func53, Tryz.ntmps53
  go_wp2_with fail
  go_loopw [5] (fun i wr => ∃ k : Nat, k ≤ ks.length ∧ i = .int .i64 k ∧ Hid (atI ks key = atF key (ks.drop k) k) ∧ ∃ d, wr = w.drewN d) (fun i _ => ks.length - (intOf i).toNat)
  case atStart => exact ⟨0, Nat.zero_le _, rfl, Lib.hid rfl, 0, rfl⟩
  case round =>
    obtain ⟨k, hk, rfl, HF, d, rfl⟩ := hrel
    by_cases hlt : k < ks.length
    · obtain ⟨ad, rfl, hb, a, c1, _, c0, hi⟩ := hr.at_ hlt
      have Hi := Lib.hid hi
      have HS := Lib.hid (atF_at key ks k hlt)
      have Hm := Lib.hid (hs _ (List.getElem_mem hlt))
      have j0 : (0 : Int) ≤ (k : Int) := Int.natCast_nonneg _
      have j1 : (k : Int) < (ks.length : Int) := by omega
      clear hi
      cases heq : eqL ks[k] key
      · have HS' : Hid (atF key (ks.drop k) k = atF key (ks.drop (k + 1)) (k + 1)) := by have := HS.out; rw [heq] at this; exact this
        have Hq := Lib.hid heq
        clear heq HS
        go_wp2_with fail
        refine (refInts_any a E _ c1 _ ce ks[k] key _ rfl rfl (by exact Hi.out) (by exact he) Hm.out).mono ?_
        rintro e w' ⟨rfl, d', rfl⟩
        rw [Hq.out]
        go_wp2_with fail
        go_roundw
        case rel => exact ⟨k + 1, by omega, by go_num, Lib.hid (HF.out.trans HS'.out), d + d', rfl⟩
        case measure => simp [intOf]; omega
      · have HS' : Hid (atF key (ks.drop k) k = (k : Int)) := by have := HS.out; rw [heq] at this; exact this
        have Hq := Lib.hid heq
        clear heq HS
        go_wp2_with fail
        refine (refInts_any a E _ c1 _ ce ks[k] key _ rfl rfl (by exact Hi.out) (by exact he) Hm.out).mono ?_
        rintro e w' ⟨rfl, d', rfl⟩
        rw [Hq.out]
        go_wp2_with fail
        go_ret
        exact ⟨by rw [HF.out, HS'.out]; rfl, d + d', rfl⟩
    · have HS := Lib.hid (atF_end key ks k (by omega))
      go_wp2_with fail
      go_ret
      exact ⟨by rw [HF.out, HS.out]; rfl, d, rfl⟩
end Go.Proofs.YtjmopbimleoidaaGreat.Hs

namespace Go.Proofs.YtjmopbimleoidaaGreat.Hs
open Go.RowKit Kit

theorem Q.of_drewN {w w' : World} (h : ∃ d, w' = w.drewN d) : Q w w' := by obtain ⟨d, rfl⟩ := h; exact (Q.refl w).drewN d

def fewF (n : Nat) : List (List Int) → Nat
  | [] => n
  | k :: l => if n ≤ 2000 then fewF (n + 1 + k.length) l else n
def fewB (ks : List (List Int)) (m : Nat) : Bool := decide (fewF m ks ≤ 2000)
theorem fewF_at (n : Nat) (ks : List (List Int)) (i : Nat) (h : i < ks.length) (hn : n ≤ 2000) : fewF n (ks.drop i) = fewF (n + 1 + ks[i].length) (ks.drop (i + 1)) := by
  rw [List.drop_eq_getElem_cons h, fewF, if_pos hn]
theorem fewF_big (n : Nat) (ks : List (List Int)) (hn : ¬ n ≤ 2000) : fewF n ks = n := by
  cases ks with
  | nil => rfl
  | cons k l => rw [fewF, if_neg hn]
theorem fewF_end (n : Nat) (ks : List (List Int)) (i : Nat) (h : ks.length ≤ i) : fewF n (ks.drop i) = n := by
  rw [List.drop_eq_nil_of_le h]; rfl
theorem fewF_sum : ∀ (ks : List (List Int)) (n : Nat), fewF n ks ≤ 2000 → n + ks.length + ks.flatten.length ≤ 2000
  | [], n, h => by simpa [fewF] using h
  | k :: l, n, h => by
    rw [fewF] at h
    by_cases hn : n ≤ 2000
    · rw [if_pos hn] at h
      have := fewF_sum l _ h
      rw [List.length_cons, List.flatten_cons, List.length_append]; omega
    · rw [if_neg hn] at h; omega
theorem few_sum {ks : List (List Int)} {m : Nat} (h : fewB ks m = true) : m + ks.length + ks.flatten.length ≤ 2000 := fewF_sum ks m (of_decide_eq_true h)

set_option maxRecDepth 100000 in
set_option maxHeartbeats 1000000 in
theorem refFew_any (A S : Option Addr) (n c m d : Nat) (ks : List (List Int)) (w : World) (hn : n = ks.length) (hk : Keys w w.heap.size A ks) (hl : ks.length ≤ 1152921504606846976) (hs : ∀ k ∈ ks, k.length ≤ 1152921504606846976) (hm : m ≤ 1152921504606846976) :
    Calls Tryz.prog 33 #[.agg #[.slice A n c, .slice S m d]] w fun e w' => e = .returned (.bool (fewB ks m)) ∧ Q w w' := by
  subst hn
  have q0 := (Q.refl w).alloc (Obj.cells #[Value.slice A ks.length c, Value.slice S m d] 26)
  have Hk := Lib.hid (hk.q (Nat.le_refl _) q0)
  clear hk
  go_enter Tryz.func33, Tryz.ntmps33
  go_wp2_with fail
  have c0 : (w.alloc (Obj.cells #[Value.slice A ks.length c, Value.slice S m d] 26)).cell? ⟨w.heap.size, 0, none⟩ = some (.slice A ks.length c) := by simp
  generalize w.alloc (Obj.cells #[Value.slice A ks.length c, Value.slice S m d] 26) = W at *
  go_loopw [3, 4] (fun s i wr => ∃ (k a : Nat), k ≤ ks.length ∧ i = .int .i64 k ∧ s = .int .i64 a ∧ a ≤ 2305843009213693952 ∧ Hid (fewF m ks = fewF a (ks.drop k)) ∧ W = wr) (fun _ i _ => ks.length - (intOf i).toNat)
  case atStart => exact ⟨0, m, Nat.zero_le _, rfl, rfl, by omega, Lib.hid (by simp), rfl⟩
  case round =>
    obtain ⟨k, a, hk, rfl, rfl, ha, HF, rfl⟩ := hrel
    by_cases hlt : k < ks.length
    · by_cases h2 : a ≤ 2000
      · obtain ⟨ad, rfl, hb, a1, c1, _, k0, _⟩ := Hk.out.at_ hlt
        have HS := Lib.hid (fewF_at a ks k hlt h2)
        have hs1 := hs _ (List.getElem_mem hlt)
        go_wp2_with fail
        go_roundw
        case rel => exact ⟨k + 1, a + 1 + ks[k].length, by omega, by go_num, by go_num, by omega, Lib.hid (HF.out.trans HS.out), trivial⟩
        case measure => simp [intOf]; omega
      · have HS := Lib.hid (fewF_big a (ks.drop k) h2)
        have HR : Hid (fewB ks m = false) := by unfold Hid fewB; rw [HF.out, HS.out]; exact decide_eq_false h2
        go_wp2_with fail
        go_ret
        exact ⟨by rw [HR.out]; simp; omega, q0⟩
    · have HS := Lib.hid (fewF_end a ks k (by omega))
      have HR : Hid (fewB ks m = decide (a ≤ 2000)) := by unfold Hid fewB; rw [HF.out, HS.out]
      go_wp2_with fail
      go_ret
      exact ⟨by rw [HR.out]; simp; omega, q0⟩
end Go.Proofs.YtjmopbimleoidaaGreat.Hs

namespace Go.Proofs.YtjmopbimleoidaaGreat.Hs
open Go.RowKit Kit

theorem lay_lt (ks : List (List Int)) : ks.length < (layI ks).length := by rw [layI_length]; exact sizeN_gt _
theorem findR_any (A S E : Option Addr) (n c m d ke ce : Nat) (ks : List (List Int)) (key : List Int) (w : World) (hn : n = ks.length) (hm : m = (layI ks).length) (hke : ke = key.length) (hk : Keys w w.heap.size A ks) (hS : Ints w w.heap.size S (layI ks)) (he : Ints w w.heap.size E key)
    (hd : Dist ks) (hs : ∀ k ∈ ks, k.length ≤ maxLen) (hkl : key.length ≤ maxLen) (hl : ks.length ≤ 5000) :
    Calls Tryz.prog 89 #[.agg #[.slice A n c, .slice S m d], .slice E ke ce] w fun e w' => e = .returned (.int .i64 (atI ks key)) ∧ Q w w' := by
  have hz : (layI ks).length ≤ 100000 := by rw [layI_length]; have := sizeN_le ks.length; omega
  have h := find_any A S E n c m d ke ce ks (layI ks) key w hn hm hke hk hS he hs hkl (by omega)
  rcases atI_cases ks key with ⟨h1, h2⟩ | ⟨i, h1, h2⟩
  · rw [(find_not (lay_inv ks) (lay_lt ks) h2).2] at h
    rw [h1]; exact h
  · obtain ⟨s, _, h4⟩ := find_there (lay_inv ks) hd (by omega) h1
    rw [h4] at h
    rw [h2]; exact h

end Go.Proofs.YtjmopbimleoidaaGreat.Hs

namespace Go.Proofs.YtjmopbimleoidaaGreat.Hs
open Go.RowKit Kit

end Go.Proofs.YtjmopbimleoidaaGreat.Hs

namespace Go.Proofs.YtjmopbimleoidaaGreat.Hs
open Go.RowKit Kit

def rdF (ks : List (List Int)) : List (List Int) → Nat → Bool
  | [], _ => true
  | k :: l, i => (atI ks k == (i : Int)) && rdF ks l (i + 1)
def rightB (ks : List (List Int)) (sl : List Int) : Bool := rdF ks ks 0 && eqL sl (layI ks)
theorem rdF_at (ks : List (List Int)) (i : Nat) (h : i < ks.length) : rdF ks (ks.drop i) i = ((atI ks ks[i] == (i : Int)) && rdF ks (ks.drop (i + 1)) (i + 1)) := by
  rw [List.drop_eq_getElem_cons h]; rfl
theorem rdF_end (ks : List (List Int)) (i : Nat) (h : ks.length ≤ i) : rdF ks (ks.drop i) i = true := by
  rw [List.drop_eq_nil_of_le h]; rfl
theorem rdF_get (ks : List (List Int)) : ∀ (l : List (List Int)) (k : Nat), rdF ks l k = true → ∀ (i : Nat) (x : List Int), l[i]? = some x → atI ks x = ((k + i : Nat) : Int)
  | [], _, _, i, x, hx => by simp at hx
  | y :: l, k, h, i, x, hx => by
    simp only [rdF, Bool.and_eq_true, beq_iff_eq] at h
    cases i with
    | zero => obtain rfl : y = x := by simpa using hx
              rw [h.1]; rfl
    | succ i => rw [rdF_get ks l (k + 1) h.2 i x (by simpa using hx)]; congr 1; omega
theorem rdF_dist {ks : List (List Int)} (h : rdF ks ks 0 = true) : Dist ks := fun i j x hi hj => by
  have h1 := rdF_get ks ks 0 h i x hi
  have h2 := rdF_get ks ks 0 h j x hj
  omega
theorem rdF_of {ks : List (List Int)} (hd : Dist ks) : ∀ (l : List (List Int)) (k : Nat), (∀ (i : Nat) (x : List Int), l[i]? = some x → ks[k + i]? = some x) → rdF ks l k = true
  | [], _, _ => rfl
  | y :: l, k, h => by
    simp only [rdF, Bool.and_eq_true, beq_iff_eq]
    refine ⟨atI_some hd (by simpa using h 0 y rfl), rdF_of hd l (k + 1) fun i x hx => ?_⟩
    have := h (i + 1) x (by simpa using hx)
    rwa [show k + 1 + i = k + (i + 1) by omega]
theorem right_iff (ks : List (List Int)) (sl : List Int) : rightB ks sl = true ↔ Dist ks ∧ sl = layI ks := by
  unfold rightB
  rw [Bool.and_eq_true, eqL_iff]
  exact ⟨fun h => ⟨rdF_dist h.1, h.2⟩, fun h => ⟨rdF_of h.1 ks 0 fun i x hx => by simpa using hx, h.2⟩⟩

set_option maxRecDepth 100000 in
set_option maxHeartbeats 1000000 in
theorem refRight_any (A S : Option Addr) (n c m d : Nat) (ks : List (List Int)) (sl : List Int) (w : World) (hn : n = ks.length) (hm : m = sl.length) (hk : Keys w w.heap.size A ks) (hS : Ints w w.heap.size S sl) (hs : ∀ k ∈ ks, k.length ≤ maxLen) (hl : ks.length ≤ 5000) (hsl : sl.length ≤ maxLen) :
    Calls Tryz.prog 77 #[.agg #[.slice A n c, .slice S m d]] w fun e w' => e = .returned (.bool (rightB ks sl)) ∧ Q w w' := by
  subst hn
  subst hm
  have q0 := (Q.refl w).alloc (Obj.cells #[Value.slice A ks.length c, Value.slice S sl.length d] 26)
  have Hk := Lib.hid ((hk.q (Nat.le_refl _) q0).more q0.size)
  have HS := Lib.hid ((hS.q (Nat.le_refl _) q0).more q0.size)
  have Hs := Lib.hid hs
  clear hk hS hs
  go_enter Tryz.func77, Tryz.ntmps77
  go_wp2_with fail
  have k0 : (w.alloc (Obj.cells #[Value.slice A ks.length c, Value.slice S sl.length d] 26)).cell? ⟨w.heap.size, 0, none⟩ = some (.slice A ks.length c) := by simp
  have k1 : (w.alloc (Obj.cells #[Value.slice A ks.length c, Value.slice S sl.length d] 26)).cell? ⟨w.heap.size, 1, none⟩ = some (.slice S sl.length d) := by simp
  have hlt : w.heap.size < (w.alloc (Obj.cells #[Value.slice A ks.length c, Value.slice S sl.length d] 26)).heap.size := by simp
  generalize w.alloc (Obj.cells #[Value.slice A ks.length c, Value.slice S sl.length d] 26) = W0 at *
  go_loopw [3] (fun i wr => ∃ k : Nat, k ≤ ks.length ∧ i = .int .i64 k ∧ Hid (rdF ks ks 0 = rdF ks (ks.drop k) k) ∧ Hid (∃ d, wr = W0.drewN d)) (fun i _ => ks.length - (intOf i).toNat)
  case atStart => exact ⟨0, Nat.zero_le _, rfl, Lib.hid rfl, Lib.hid ⟨0, rfl⟩⟩
  case round =>
    obtain ⟨k, hkl, rfl, HF, HD⟩ := hrel
    have k0r : wr.cell? ⟨w.heap.size, 0, none⟩ = some (.slice A ks.length c) := by obtain ⟨d, rfl⟩ := HD.out; exact k0
    have k1r : wr.cell? ⟨w.heap.size, 1, none⟩ = some (.slice S sl.length d) := by obtain ⟨d, rfl⟩ := HD.out; exact k1
    have Hkr : Hid (Keys wr wr.heap.size A ks) := by obtain ⟨d, rfl⟩ := HD.out; exact Hk.out
    have HSr : Hid (Ints wr wr.heap.size S sl) := by obtain ⟨d, rfl⟩ := HD.out; exact HS.out
    have qr : Q W0 wr := Q.of_drewN HD.out
    clear k0 k1 Hk HS
    by_cases hlt2 : k < ks.length
    · obtain ⟨ad, rfl, hb, a, c1, _, c0, hi⟩ := Hkr.out.at_ hlt2
      have HS2 := Lib.hid (rdF_at ks k hlt2)
      have C : Hid (∀ n, Calls Tryz.prog 53 #[.slice (some ad) ks.length c, .slice a ks[k].length c1] (wr.drewN n) fun e w' => e = .returned (.int .i64 (atI ks ks[k])) ∧ ∃ m', w' = (wr.drewN n).drewN m') := fun n =>
        refAt_any (some ad) a _ c _ c1 ks ks[k] (wr.drewN n) rfl rfl Hkr.out hi (by unfold maxLen; omega) Hs.out
      have j0 : (0 : Int) ≤ (k : Int) := Int.natCast_nonneg _
      have j1 : (k : Int) < (ks.length : Int) := by omega
      clear hi
      cases he : (atI ks ks[k] == (k : Int))
      · have hne : (atI ks ks[k] != (k : Int)) = true := by simpa using he
        have HR : Hid (rightB ks sl = false) := by unfold Hid rightB; rw [HF.out, HS2.out, he]; rfl
        clear he
        go_wp2_with fail
        go_quiet (first | (go_at_call 53; exact Calls.quiet_of (C.out _)))
        go_wp2_with fail
        go_ret
        exact ⟨by rw [HR.out]; rfl, (q0.trans qr).drewN _⟩
      · have hne : (atI ks ks[k] != (k : Int)) = false := by simpa using he
        have HR : Hid (rdF ks (ks.drop k) k = rdF ks (ks.drop (k + 1)) (k + 1)) := by unfold Hid; rw [HS2.out, he]; rfl
        clear he
        go_wp2_with fail
        go_quiet (first | (go_at_call 53; exact Calls.quiet_of (C.out _)))
        go_wp2_with fail
        go_roundw
        case rel => exact ⟨k + 1, by omega, by go_num, Lib.hid (HF.out.trans HR.out), Lib.hid (by obtain ⟨d, rfl⟩ := HD.out; exact ⟨_, drewN_add' _ _ _⟩)⟩
        case measure => simp [intOf]; omega
    · have HR : Hid (rightB ks sl = eqL sl (layI ks)) := by unfold Hid rightB; rw [HF.out, rdF_end ks k (by omega)]; rfl
      have hltr : w.heap.size < wr.heap.size := by have := qr.size; omega
      have HLl : Hid (sizeN ks.length = (layI ks).length) := Lib.hid (layI_length ks).symm
      go_wp2_with fail
      go_region_held3 (fun w' => w'.cell? ⟨w.heap.size, 0, none⟩ = some (.slice A ks.length c) ∧ w'.cell? ⟨w.heap.size, 1, none⟩ = some (.slice S sl.length d))
        (first
          | go_keep
          | exact ⟨(p1.cell (p := ⟨w.heap.size, 0, none⟩) hltr).trans k0r, (p1.cell (p := ⟨w.heap.size, 1, none⟩) hltr).trans k1r⟩
          | exact ⟨((p1.trans q2).cell (p := ⟨w.heap.size, 0, none⟩) hltr).trans k0r, ((p1.trans q2).cell (p := ⟨w.heap.size, 1, none⟩) hltr).trans k1r⟩)
        (first
          | (go_at_call 54; refine (refLay_any _ _ _ ks _ rfl (by exact Hkr.out) (by omega) Hs.out).mono ?_; rintro e w1 ⟨g, rfl, hg, hO, q1⟩; have HO := Lib.hid hO; clear hO; have p1 := (Q.refl wr).drew.trans q1)
          | (go_at_call 16; refine (refInts_any _ _ _ _ _ _ sl (layI ks) _ rfl HLl.out (by exact ((HSr.out.q (Nat.le_refl _) p1).more p1.size)) (by exact HO.out.ints) hsl).mono ?_; rintro e w2 ⟨rfl, hd2⟩; have q2 := Q.of_drewN hd2; clear hd2))
      go_wp2_with fail
      go_ret
      exact ⟨by rw [HR.out]; rfl, ((q0.trans qr).trans p1).trans q2⟩
end Go.Proofs.YtjmopbimleoidaaGreat.Hs

namespace Go.Proofs.YtjmopbimleoidaaGreat.Hs
open Go.ChangeShapes Go.WideShapes Go.RowKit Kit Go.Deep Go.Joins

theorem bytes_int : Tryz.prog.bytesOf 3 = 8 := by kernel_rfl
theorem bytes_ints : Tryz.prog.bytesOf 24 = 24 := by kernel_rfl
theorem cells_int : Tryz.prog.cellsOf 3 = 1 := by kernel_rfl
theorem cells_ints : Tryz.prog.cellsOf 24 = 1 := by kernel_rfl
theorem weights_all {H : Type} {P : Program} {e : TypeId} : ∀ {ds : List (DataW H)} {d : DataW H}, d ∈ ds → ∀ n ∈ d.weights P e, n ∈ DataW.weightsAll P e ds
  | x :: l, d, h, n, hn => by
    simp only [DataW.weightsAll, List.mem_append]
    rcases List.mem_cons.1 h with rfl | h
    · exact .inl hn
    · exact .inr (weights_all h n hn)

section
variable {H : Type} {enc : TypeId × Value → H} {W : World} {base : Nat}
set_option maxRecDepth 100000 in
theorem open_row_cells {fuel : Nat} {v : Value} {x : DataW H × List MemPlace} (h : DataW.trod enc Tryz.prog W 0 (fun _ => true) true fuel 24 [v] = some x) (hz : ∀ n ∈ x.1.weights Tryz.prog 24, n ≤ reachBytes) :
    ∃ A n c l, v = .slice A n c ∧ n = l.length ∧ n ≤ c ∧ Ints W W.heap.size A l ∧ l.length ≤ 1152921504606846976 := by
  rcases open_ints Tryz.underlying24 Tryz.underlying3 cells_int h with ⟨hcs, hx⟩ | ⟨a, len, cap, zs, hcs, _, hl, _, hlen, hx, hcell, _⟩
  · obtain rfl : v = .slice none 0 0 := by simpa using hcs
    exact ⟨none, 0, 0, [], rfl, rfl, Nat.le_refl _, fun h => absurd h (by simp), by simp⟩
  · obtain rfl : v = .slice (some a) len cap := by simpa using hcs
    simp only [if_true] at hlen
    have hw : (((lits .i64 (zs.take len) : List (DataW H))).length + ((lits .i64 (zs.drop len) : List (DataW H))).length) * Tryz.prog.bytesOf 3 ≤ reachBytes := by
      refine hz _ ?_
      rw [hx]
      simp [DataW.weights, Tryz.underlying24]
    rw [bytes_int] at hw
    have hll : (zs.take len).length = len := by rw [List.length_take, hlen]; omega
    refine ⟨_, _, _, zs.take len, rfl, hll.symm, hl, fun h0 => ⟨a, rfl, ?_, fun i y hy => ?_⟩, ?_⟩
    · have := hcell 0 (by omega)
      have := World.block_lt_of_cell? W _ this
      rwa [add_block] at this
    · have hi : i < len := by have := (List.getElem?_eq_some_iff.1 hy).1; omega
      rw [List.getElem?_take, if_pos hi] at hy
      rw [hcell i (by omega)]
      simp [hy]
    · simp [lits, reachBytes] at hw
      rw [hll]; omega
set_option maxRecDepth 100000 in
theorem open_rows_cells {fuel : Nat} {v : Value} {x : DataW H × List MemPlace} (h : DataW.trod enc Tryz.prog W 0 (fun _ => true) true fuel 23 [v] = some x) (hz : ∀ n ∈ x.1.weights Tryz.prog 23, n ≤ reachBytes) :
    ∃ A n c ks, v = .slice A n c ∧ n = ks.length ∧ Keys W W.heap.size A ks ∧ ks.length ≤ 1152921504606846976 ∧ ∀ k ∈ ks, k.length ≤ 1152921504606846976 := by
  rcases open_int_rows Tryz.underlying23 Tryz.underlying24 Tryz.underlying3 cells_ints cells_int h with ⟨hcs, hx⟩ | ⟨a, len, cap, A, L, C, Z, hcs, _, hl, _, hx, hi⟩
  · obtain rfl : v = .slice none 0 0 := by simpa using hcs
    exact ⟨none, 0, 0, [], rfl, rfl, fun h => absurd h (by simp), by simp, by simp⟩
  · obtain rfl : v = .slice (some a) len cap := by simpa using hcs
    have hwr : ∀ r, r < len → ∀ n ∈ (intRow .i64 (A r) (L r) (Z r) : DataW H).weights Tryz.prog 24, n ≤ reachBytes := fun r hr n hn => by
      refine hz _ ?_
      rw [hx]
      simp only [DataW.weights, Tryz.underlying23, List.mem_cons, List.mem_append]
      exact .inr (.inl (weights_all (List.mem_map.2 ⟨r, by simpa using hr, rfl⟩) n hn))
    have hlen : len ≤ 1152921504606846976 := by
      have := hz ((((List.range len).map fun r => (intRow .i64 (A r) (L r) (Z r) : DataW H)).length + ((List.range (cap - len)).map fun j => (intRow .i64 (A (len + j)) (L (len + j)) (Z (len + j)) : DataW H)).length) * Tryz.prog.bytesOf 24) (by
        rw [hx]
        simp only [DataW.weights, Tryz.underlying23]
        exact List.mem_cons_self ..)
      rw [bytes_ints] at this
      simp [reachBytes] at this
      omega
    have hL : ∀ r, r < len → L r ≤ 1152921504606846976 := fun r hr => by
      obtain ⟨_, h1, _, h3, _, h5, _⟩ := hi r (by omega)
      cases hA : A r with
      | none => have := h5 hA; omega
      | some a' =>
        have := hwr r hr (((lits .i64 ((Z r).take (L r)) : List (DataW H)).length + (lits .i64 ((Z r).drop (L r)) : List (DataW H)).length) * Tryz.prog.bytesOf 3) (by
          rw [hA]
          simp [intRow, DataW.weights, Tryz.underlying24])
        rw [bytes_int] at this
        simp [lits, reachBytes] at this
        omega
    have hT : ∀ r, r < len → ((Z r).take (L r)).length = L r := fun r hr => by
      obtain ⟨_, h1, _, h3, _⟩ := hi r (by omega)
      rw [List.length_take]; omega
    refine ⟨_, _, _, (List.range len).map fun r => (Z r).take (L r), rfl, by simp, fun h0 => ⟨a, rfl, ?_, fun i k hk => ?_⟩, by simpa using hlen, fun k hk => ?_⟩
    · have h0' : 0 < len := by simpa using h0
      have := (hi 0 (by omega)).1
      have := World.block_lt_of_cell? W _ this
      rwa [add_block] at this
    · have hil : i < len := by have := (List.getElem?_eq_some_iff.1 hk).1; simpa using this
      obtain rfl : (Z i).take (L i) = k := by simpa [hil] using hk
      obtain ⟨h0', h1, _, h3, _, h5, h6⟩ := hi i (by omega)
      rw [hT i hil]
      refine ⟨A i, C i, h1, h0', fun hp => ?_⟩
      rw [hT i hil] at hp
      cases hA : A i with
      | none => have := h5 hA; omega
      | some a' =>
        obtain ⟨_, hc⟩ := h6 a' hA
        refine ⟨a', rfl, ?_, fun j y hy => ?_⟩
        · have := World.block_lt_of_cell? W _ (hc 0 (by omega))
          rwa [add_block] at this
        · have hj : j < L i := by have := (List.getElem?_eq_some_iff.1 hy).1; rw [hT i hil] at this; exact this
          rw [List.getElem?_take, if_pos hj] at hy
          rw [hc j (by omega)]
          simp [hy]
    · obtain ⟨r, hr, rfl⟩ := List.mem_map.1 hk
      have hr' : r < len := by simpa using hr
      rw [hT r hr']
      exact hL r hr'
end
end Go.Proofs.YtjmopbimleoidaaGreat.Hs

namespace Go.Proofs.YtjmopbimleoidaaGreat.Hs
open Go.RowKit Kit

structure BoxT (W : World) (B : Nat) (a b : Value) : Prop where
  c0 : W.cell? ⟨B, 0, none⟩ = some a
  c1 : W.cell? ⟨B, 1, none⟩ = some b
  lt : B < W.heap.size
theorem BoxT.q {W W' : World} {B : Nat} {a b : Value} (h : BoxT W B a b) (q : Q W W') : BoxT W' B a b :=
  ⟨(q.cell (p := ⟨B, 0, none⟩) h.lt).trans h.c0, (q.cell (p := ⟨B, 1, none⟩) h.lt).trans h.c1, Nat.lt_of_lt_of_le h.lt q.size⟩
theorem BoxT.new (w : World) (a b : Value) (t : TypeId) : BoxT (w.alloc (.cells #[a, b] t)) w.heap.size a b := ⟨by simp, by simp, by simp⟩
end Go.Proofs.YtjmopbimleoidaaGreat.Hs
