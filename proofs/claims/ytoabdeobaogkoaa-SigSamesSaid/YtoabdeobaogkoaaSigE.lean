/-
  Contract of sig.Add: a copy of the row, with the constructor behind it if that may be.
-/
import Derived.Test.YtoabdeobaogkoaaSigD
import Derived.OwnWalk
import Derived.Laws.CopyOwn
import Derived.Laws.MakeOwn
import Derived.Laws.OwnMore
namespace Go.Proofs.Ytoabdeobaogkoaa.Sg
open Go.RowKit Kit

/-! ### copy of elements of several cells -/
theorem run_copy_rows {P : Program} (w : World) (dT sT ty elem : TypeId) (sz : Nat) (g dLen dCap : Nat) (a : Addr) (sLen sCap : Nat) (cur : Array Value) (t : TypeId) (cs : List Value)
    (hu : P.underlying dT = some (.slice elem)) (hs : (P.info? elem).map (·.size) = some sz)
    (hg : w.heap[g]? = some (.cells cur t (0, 0))) (hn : cs.length = Nat.min sLen dLen * sz)
    (hsrc : ∀ j v, cs[j]? = some v → w.cell? (a.add j) = some v) (hfit : cs.length ≤ cur.size) (h1 : ∀ v ∈ cs, v.oneCell' = true) :
    (Builtin.copy_ #[dT, sT] ty #[.slice (some ⟨g, 0, none⟩) dLen dCap, .slice (some a) sLen sCap]).run P w =
      .ok (goInt (Nat.min sLen dLen)) (w.setRow g (cs ++ cur.toList.drop cs.length).toArray) := by
  have hl := run_loadCells_list (P := P) w a cs hsrc
  have hst := run_storeCells_at P g 0 t cs 0 cur w hg (by simpa using hfit) h1
  cases hq : P.info? elem with
  | none => simp [hq] at hs
  | some i =>
    have hi : i.size = sz := by simpa [hq] using hs
    simp [Builtin.copy_, run_underlying hu, Builtin.lenOf, Builtin.firstCells, sizeOf, typeInfo, hq, hi, ← hn, hl, hst]
theorem run_copy_rows_none {P : Program} (w : World) (dT sT ty elem : TypeId) (sz : Nat) (d a : Option Addr) (dLen dCap sLen sCap : Nat)
    (hu : P.underlying dT = some (.slice elem)) (hs : (P.info? elem).map (·.size) = some sz) (hn : Nat.min sLen dLen = 0) :
    (Builtin.copy_ #[dT, sT] ty #[.slice d dLen dCap, .slice a sLen sCap]).run P w = .ok (goInt 0) w := by
  cases hq : P.info? elem with
  | none => simp [hq] at hs
  | some i =>
    have hl : ∀ (x : Addr), (loadCells x 0).run P w = .ok #[] w := fun x => by simpa using run_loadCells_list (P := P) w x [] (by simp)
    cases d <;> cases a <;> simp [Builtin.copy_, run_underlying hu, Builtin.lenOf, Builtin.firstCells, sizeOf, typeInfo, hq, hn, storeCells, hl]

/-- copy(d, s) of n elements: d a block of the call's own, read from its head; s whatever, nil too -/
theorem run_copy_all {P : Program} (w : World) (dT sT ty elem : TypeId) (sz : Nat) (g n dCap : Nat) (sp : Option Addr) (sCap : Nat) (cur : Array Value) (t : TypeId) (cs : List Value)
    (hu : P.underlying dT = some (.slice elem)) (hs : (P.info? elem).map (·.size) = some sz) (hg : w.heap[g]? = some (.cells cur t (0, 0))) (hn : cs.length = n * sz) (hz : 0 < sz)
    (hsrc : 0 < cs.length → ∃ ad, sp = some ad ∧ ∀ j v, cs[j]? = some v → w.cell? (ad.add j) = some v) (hfit : cs.length ≤ cur.size) (h1 : ∀ v ∈ cs, v.oneCell' = true) :
    ∃ w', (Builtin.copy_ #[dT, sT] ty #[.slice (some ⟨g, 0, none⟩) n dCap, .slice sp n sCap]).run P w = .ok (.int .i64 n) w' ∧
      w'.heap[g]? = some (.cells (cs ++ cur.toList.drop cs.length).toArray t (0, 0)) ∧ w.grownBy w' (some g) := by
  have hm : Nat.min n n = n := Nat.min_self n
  by_cases h0 : cs.length = 0
  · obtain rfl : cs = [] := List.eq_nil_of_length_eq_zero h0
    have hm0 : n = 0 := by
      rcases Nat.eq_zero_or_pos n with e | e
      · exact e
      · have := Nat.mul_pos e hz
        simp at hn
        omega
    subst hm0
    exact ⟨w, run_copy_rows_none (P := P) w dT sT ty elem sz (some ⟨g, 0, none⟩) sp 0 dCap 0 sCap hu hs rfl, by simpa using hg, World.grownBy.refl w _⟩
  · obtain ⟨ad, rfl, hsrc'⟩ := hsrc (by omega)
    have hrun := run_copy_rows (P := P) w dT sT ty elem sz g n dCap ad n sCap cur t cs hu hs hg (by rw [hm]; exact hn) hsrc' hfit h1
    rw [hm] at hrun
    exact ⟨_, hrun, by simpa using setRow_heap w g _ _ t _ hg, ⟨rfl, rfl, rfl, by simp [World.setRow], fun k _ hne => setRow_other w g k _ (fun e => hne (by rw [e]))⟩⟩

/-! ### the cells of a row -/
def cellsOf : List Sig → List Value
  | [] => []
  | s :: l => .string s.1 :: .string s.2 :: cellsOf l
theorem cellsOf_length (l : List Sig) : (cellsOf l).length = l.length * 2 := by
  induction l with
  | nil => rfl
  | cons s l ih => simp [cellsOf, ih]; omega
theorem cellsOf_append (a b : List Sig) : cellsOf (a ++ b) = cellsOf a ++ cellsOf b := by
  induction a with
  | nil => rfl
  | cons s l ih => simp [cellsOf, ih]
theorem cellsOf_even (l : List Sig) (i : Nat) : (cellsOf l)[i * 2]? = l[i]?.map fun s => Value.string s.1 := by
  induction l generalizing i with
  | nil => simp [cellsOf]
  | cons s l ih =>
    cases i with
    | zero => rfl
    | succ i => rw [show (i + 1) * 2 = i * 2 + 1 + 1 by omega]; simpa [cellsOf] using ih i
theorem cellsOf_odd (l : List Sig) (i : Nat) : (cellsOf l)[i * 2 + 1]? = l[i]?.map fun s => Value.string s.2 := by
  induction l generalizing i with
  | nil => simp [cellsOf]
  | cons s l ih =>
    cases i with
    | zero => rfl
    | succ i => rw [show (i + 1) * 2 + 1 = i * 2 + 1 + 1 + 1 by omega]; simpa [cellsOf] using ih i
theorem cellsOf_one (l : List Sig) : ∀ v ∈ cellsOf l, v.oneCell' = true := by
  induction l with
  | nil => simp [cellsOf]
  | cons s l ih => simp only [cellsOf, List.mem_cons]; rintro v (rfl | rfl | h); exact rfl; exact rfl; exact ih v h

theorem Row.cells {w : World} {B : Nat} {A : Option Addr} {l : List Sig} (h : Row w B A l) (h0 : 0 < (cellsOf l).length) :
    ∃ ad, A = some ad ∧ ∀ j v, (cellsOf l)[j]? = some v → w.cell? (ad.add j) = some v := by
  rw [cellsOf_length] at h0
  obtain ⟨ad, e, _, hc⟩ := h (by omega)
  refine ⟨ad, e, fun j v hv => ?_⟩
  rcases Nat.mod_two_eq_zero_or_one j with hj | hj
  · obtain ⟨i, rfl⟩ : ∃ i, j = i * 2 := ⟨j / 2, by omega⟩
    rw [cellsOf_even, Option.map_eq_some_iff] at hv
    obtain ⟨s, hs, rfl⟩ := hv
    exact (hc i s hs).1
  · obtain ⟨i, rfl⟩ : ∃ i, j = i * 2 + 1 := ⟨j / 2, by omega⟩
    rw [cellsOf_odd, Option.map_eq_some_iff] at hv
    obtain ⟨s, hs, rfl⟩ := hv
    rw [add_succ]
    exact (hc i s hs).2
theorem add_zero_head (g j : Nat) : (⟨g, 0, none⟩ : Addr).add j = ⟨g, j, none⟩ := by
  unfold Addr.add
  by_cases h : j = 0 <;> simp [h]
theorem Row.of_own {w : World} {base g n cap : Nat} {e : TypeId} {l : List Sig} (h : w.ownsRow base e 2 (.slice (some ⟨g, 0, none⟩) n cap) n (cellsOf l)) : Row w w.heap.size (some ⟨g, 0, none⟩) l := fun h0 => by
  have hlt := (h.lt g rfl).2
  refine ⟨_, rfl, hlt, fun i s hs => ?_⟩
  have hc := h.cells (g := g) rfl
  have c0 := hc (i * 2) (.string s.1) (by rw [cellsOf_even, hs]; rfl)
  have c1 := hc (i * 2 + 1) (.string s.2) (by rw [cellsOf_odd, hs]; rfl)
  rw [add_succ] at c1
  exact ⟨c0, c1⟩

/-! ### Add -/
theorem sigInfo : (Try.prog.info? 24).map (fun i => (i.zero, i.size, i.bytes)) = some (some (.agg #[.string .empty, .string .empty]), 2, 32) := by kernel_rfl
def addL (l : List Sig) (nm ar : ByteArray) : List Sig := if mayI l nm ar = 0 then l ++ [(nm, ar)] else l
def AddPost (l : List Sig) (nm ar : ByteArray) (w : World) (e : Ending) (w' : World) : Prop :=
  ∃ g m, e = .returned (.tuple #[.slice (some ⟨g, 0, none⟩) m (l.length + 1), .int .i64 (mayI l nm ar)]) ∧ m = (addL l nm ar).length ∧ w.heap.size ≤ g ∧ Row w' w'.heap.size (some ⟨g, 0, none⟩) (addL l nm ar) ∧ Q w w'

set_option maxHeartbeats 400000 in
theorem add_any (A : Option Addr) (n c : Nat) (l : List Sig) (nm ar : ByteArray) (w : World) (hn : n = l.length) (hr : Row w w.heap.size A l) (hl : l.length ≤ 200) :
    Calls Try.prog 11 #[.slice A n c, .agg #[.string nm, .string ar]] w (AddPost l nm ar w) := by
  subst hn
  obtain ⟨i0, hi, hz0, hz1, hz2⟩ := info_parts sigInfo
  have hmk : ∀ u : World, (Instr.makeSlice 22 (.int .i64 (l.length : Int)) (.int .i64 ((l.length : Int) + 1))).run Try.prog u =
      .ok (.slice (some ⟨u.heap.size, 0, none⟩) l.length (l.length + 1)) (u.alloc (.cells (madeCells #[.string .empty, .string .empty] ((l.length + 1) * 2)) 24)) := fun u => by
    have h := run_make (P := Try.prog) u 22 24 i0 _ Try.underlying22 hi hz0 .i64 .i64 (l.length : Int) ((l.length : Int) + 1) (by omega) (by omega) (by rw [hz2]; omega) (by omega)
    have e1 : ((l.length : Int) + 1).toNat = l.length + 1 := by omega
    have e2 : ((l.length : Int)).toNat = l.length := by omega
    rw [e1, e2, hz1] at h
    exact h
  have hsz : (Try.prog.info? 24).map (·.size) = some 2 := by rw [hi]; simp [hz1]
  have Hi := Lib.hid hi
  have Hz1 := Lib.hid hz1
  have hr' := (hr.q (Nat.le_refl _) (((Q.refl w).alloc (Obj.cells #[Value.string nm, Value.string ar] 24)).alloc (Obj.cells (madeCells #[Value.string ByteArray.empty, Value.string ByteArray.empty] ((l.length + 1) * 2)) 24)))
  obtain ⟨w2, hcp, hg2, hgr⟩ := run_copy_all (P := Try.prog) ((w.alloc (Obj.cells #[Value.string nm, Value.string ar] 24)).alloc (Obj.cells (madeCells #[Value.string ByteArray.empty, Value.string ByteArray.empty] ((l.length + 1) * 2)) 24))
    22 22 3 24 2 (w.heap.size + 1) l.length (l.length + 1) A c _ 24 (cellsOf l) Try.underlying22 hsz (by simpa using heap_alloc_new (w.alloc (Obj.cells #[Value.string nm, Value.string ar] 24)) _) (cellsOf_length l) (by omega)
    (fun h0 => hr'.cells h0) (by rw [cellsOf_length, size_madeCells]; omega) (cellsOf_one l)
  clear hsz hi hz0 hz1 hz2
  have q2 : Q w w2 := ((Q.refl w).alloc _ |>.alloc _).grown hgr (by simp; omega) (by simp)
  have own2 : Hid (w2.ownsRow w.heap.size 24 2 (.slice (some ⟨w.heap.size + 1, 0, none⟩) l.length (l.length + 1)) l.length (cellsOf l)) :=
    ⟨cellsOf_length l, .inr ⟨_, _, _, rfl, by omega, hg2, by omega, by unfold maxLen; omega, by simp [cellsOf_length, size_madeCells]; omega, by simp [cellsOf_length]⟩⟩
  have b0 : w2.heap[w.heap.size]? = some (.cells #[Value.string nm, Value.string ar] 24 (0, 0)) := by
    rw [hgr.block _ (by simp; omega) (by simp)]
    rw [Below.heap_alloc _ _ _ (by simp)]
    exact heap_alloc_new w _
  clear hg2 hgr hr'
  have k0 : w2.cell? ⟨w.heap.size, 0, none⟩ = some (.string nm) := by rw [cell_of_row w2 _ _ _ _ _ b0]; rfl
  have k1 : w2.cell? ⟨w.heap.size, 1, none⟩ = some (.string ar) := by rw [cell_of_row w2 _ _ _ _ _ b0]; rfl
  clear b0
  have hr2 : Hid (Row w2 w2.heap.size A l) := (hr.q (Nat.le_refl _) q2).more q2.size
  clear hr
  by_cases hm : mayI l nm ar = 0
  · have HM := Lib.hid hm
    have hm' : (mayI l nm ar != 0) = false := by simpa using hm
    have HL : Hid (addL l nm ar = l ++ [(nm, ar)]) := by unfold Hid addL; rw [if_pos hm]
    clear hm
    go_enter Try.func11, Try.ntmps11
    go_wp2_with fail
    refine (mayAdd_any _ _ _ l _ _ _ rfl hr2.out (by unfold maxLen; omega)).mono ?_
    rintro e w3 ⟨rfl, q3⟩
    have own3 : Hid (w3.ownsRow w.heap.size 24 2 (.slice (some ⟨w.heap.size + 1, 0, none⟩) l.length (l.length + 1)) l.length (cellsOf l)) :=
      own2.out.kept (row := none) ⟨q3.os, q3.tape, q3.output, q3.size, fun i hi _ => q3.block i hi⟩ (.inr (by simp [Value.ownBlock]))
    have k0' : w3.cell? ⟨w.heap.size, 0, none⟩ = some (.string nm) := by rw [q3.cell (by have := own2.out.lt _ rfl; show w.heap.size < w2.heap.size; omega)]; exact k0
    have k1' : w3.cell? ⟨w.heap.size, 1, none⟩ = some (.string ar) := by rw [q3.cell (by have := own2.out.lt _ rfl; show w.heap.size < w2.heap.size; omega)]; exact k1
    clear k0 k1 hmk hcp
    have hsrc : Hid (∀ j u, [Value.string nm, Value.string ar][j]? = some u → (w3.alloc (.cells #[.string nm, .string ar] 24)).cell? ((⟨w3.heap.size, 0, none⟩ : Addr).add j) = some u) := by
      intro j u hu
      rw [add_zero_head, cell_of_row _ _ _ _ _ _ (heap_alloc_new w3 _)]
      simpa using hu
    go_wp2_with (at_builtin; refine wpList_append_fits _ rfl (.tmp 24) (.tmp 26) _ rfl w.heap.size 24 i0 2 Try.underlying22 Hi.out Hz1.out (w.heap.size + 1) l.length (l.length + 1) (cellsOf l) rfl (own3.out.alloc _) ⟨w3.heap.size, 0, none⟩ 1 1 [.string nm, .string ar] rfl rfl hsrc.out (by simp [Value.oneCell']) (by omega) ?_; intro w4 own4 hgr4)
    go_ret2
    have q4 : Hid (Q w w4) := ((q2.trans q3).alloc _).grown hgr4 (by have := (q2.trans q3).size; simp; omega) (by simp)
    have own4' := Lib.hid own4
    refine ⟨w.heap.size + 1, l.length + 1, by rw [HM.out]; rfl, by rw [HL.out]; simp, by omega, ?_, q4.out⟩
    rw [HL.out]
    have := own4'.out
    rw [show cellsOf l ++ [Value.string nm, Value.string ar] = cellsOf (l ++ [(nm, ar)]) by rw [cellsOf_append]; rfl] at this
    exact Row.of_own this
  · have hm' : (mayI l nm ar != 0) = true := by simpa using hm
    have HL : Hid (addL l nm ar = l) := by unfold Hid addL; rw [if_neg hm]
    clear hm
    go_enter Try.func11, Try.ntmps11
    go_wp2_with fail
    refine (mayAdd_any _ _ _ l _ _ _ rfl hr2.out (by unfold maxLen; omega)).mono ?_
    rintro e w3 ⟨rfl, q3⟩
    have own3 : Hid (w3.ownsRow w.heap.size 24 2 (.slice (some ⟨w.heap.size + 1, 0, none⟩) l.length (l.length + 1)) l.length (cellsOf l)) :=
      own2.out.kept (row := none) ⟨q3.os, q3.tape, q3.output, q3.size, fun i hi _ => q3.block i hi⟩ (.inr (by simp [Value.ownBlock]))
    go_wp2_with fail
    go_ret2
    refine ⟨w.heap.size + 1, l.length, rfl, by rw [HL.out], by omega, ?_, q2.trans q3⟩
    rw [HL.out]
    exact Row.of_own own3.out
end Go.Proofs.Ytoabdeobaogkoaa.Sg
