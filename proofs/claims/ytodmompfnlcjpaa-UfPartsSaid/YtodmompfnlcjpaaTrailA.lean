/-
  Rows of cells in memory, read and owned; the plain reckoning of cells that can be taken back; contracts of the leaves: isPlace, copyRow of numbers and of notes, count.
-/
import Derived.Test.YtodmompfnlcjpaaKitRows
import Derived.Test.YtodmompfnlcjpaaKitCopy
import Derived.Outline
import Derived.Laws.Append
import Derived.Laws.MakeOwn
import Derived.Laws.CopyOwn
import Derived.Laws.OwnMore
import Derived.OwnWalk
import Derived.Laws.StructEq
import Derived.Deep.RegionHeld
namespace Go.Proofs.Ytodmompfnlcjpaa.Tr
open Go.RowKit Kit

/-! ### rows of cells -/
/-- a slice value that reads these cells, below block B -/
def Rds (w : World) (B : Nat) (A : Option Addr) (cs : List Value) : Prop := 0 < cs.length → ∃ ad, A = some ad ∧ ad.block < B ∧ ∀ j v, cs[j]? = some v → w.cell? (ad.add j) = some v
theorem add_block (a : Addr) (n : Nat) : (a.add n).block = a.block := by unfold Addr.add; split <;> rfl
theorem add_succ (a : Addr) (n : Nat) : a.add (n + 1) = ⟨(a.add n).block, (a.add n).off + 1, none⟩ := by
  unfold Addr.add
  by_cases h : n = 0 <;> simp [h, Nat.add_assoc]
theorem add_zero_head (g j : Nat) : (⟨g, 0, none⟩ : Addr).add j = ⟨g, j, none⟩ := by
  unfold Addr.add
  by_cases h : j = 0 <;> simp [h]
theorem Rds.keep {w w' : World} {B : Nat} {A : Option Addr} {l : List Value} (h : Rds w B A l) (hb : Below B w w') : Rds w' B A l := fun h0 => by
  obtain ⟨ad, e, hlt, hc⟩ := h h0
  exact ⟨ad, e, hlt, fun i s hs => (hb.cell (by rw [add_block]; exact hlt)).trans (hc i s hs)⟩
theorem Rds.more {w : World} {B B' : Nat} {A : Option Addr} {l : List Value} (h : Rds w B A l) (hB : B ≤ B') : Rds w B' A l := fun h0 => by
  obtain ⟨ad, e, hlt, hc⟩ := h h0
  exact ⟨ad, e, by omega, hc⟩
theorem Rds.q {w w' : World} {A : Option Addr} {l : List Value} (h : Rds w w.heap.size A l) (q : Q w w') : Rds w' w'.heap.size A l := (h.keep q).more q.size
theorem Rds.nil (w : World) (B : Nat) (A : Option Addr) : Rds w B A [] := fun h => absurd h (by simp)

abbrev Note := Int × Int
def cellsI (l : List Int) : List Value := l.map (Value.int .i64)
def cellsP : List Note → List Value
  | [] => []
  | n :: l => .int .i64 n.1 :: .int .i64 n.2 :: cellsP l
theorem cellsI_len (l : List Int) : (cellsI l).length = l.length := by simp [cellsI]
theorem cellsI_one (l : List Int) : ∀ u ∈ cellsI l, u.oneCell' = true := fun u hu => by
  obtain ⟨x, _, rfl⟩ := List.mem_map.1 hu; rfl
theorem cellsI_at {l : List Int} {k : Nat} (h : k < l.length) : (cellsI l)[k]? = some (.int .i64 l[k]) := by simp [cellsI, h]
theorem cellsI_append (a b : List Int) : cellsI (a ++ b) = cellsI a ++ cellsI b := by simp [cellsI]
theorem cellsI_set (l : List Int) (k : Nat) (x : Int) : cellsI (l.set k x) = (cellsI l).set k (.int .i64 x) := by simp [cellsI]
theorem cellsP_len (l : List Note) : (cellsP l).length = l.length * 2 := by
  induction l with
  | nil => rfl
  | cons s l ih => simp [cellsP, ih]; omega
theorem cellsP_append (a b : List Note) : cellsP (a ++ b) = cellsP a ++ cellsP b := by
  induction a with
  | nil => rfl
  | cons s l ih => simp [cellsP, ih]
theorem cellsP_even (l : List Note) (i : Nat) : (cellsP l)[i * 2]? = l[i]?.map fun s => Value.int .i64 s.1 := by
  induction l generalizing i with
  | nil => simp [cellsP]
  | cons s l ih =>
    cases i with
    | zero => rfl
    | succ i => rw [show (i + 1) * 2 = i * 2 + 1 + 1 by omega]; simpa [cellsP] using ih i
theorem cellsP_odd (l : List Note) (i : Nat) : (cellsP l)[i * 2 + 1]? = l[i]?.map fun s => Value.int .i64 s.2 := by
  induction l generalizing i with
  | nil => simp [cellsP]
  | cons s l ih =>
    cases i with
    | zero => rfl
    | succ i => rw [show (i + 1) * 2 + 1 = i * 2 + 1 + 1 + 1 by omega]; simpa [cellsP] using ih i
theorem cellsP_one (l : List Note) : ∀ v ∈ cellsP l, v.oneCell' = true := by
  induction l with
  | nil => simp [cellsP]
  | cons s l ih => simp only [cellsP, List.mem_cons]; rintro v (rfl | rfl | h); exact rfl; exact rfl; exact ih v h
theorem cellsP_take (l : List Note) (n : Nat) : (cellsP l).take (n * 2) = cellsP (l.take n) := by
  induction l generalizing n with
  | nil => simp [cellsP]
  | cons s l ih =>
    cases n with
    | zero => simp [cellsP]
    | succ n => rw [show (n + 1) * 2 = n * 2 + 1 + 1 by omega]; simp [cellsP, ih]
theorem cellsP_drop (l : List Note) (n : Nat) : (cellsP l).drop (n * 2) = cellsP (l.drop n) := by
  induction l generalizing n with
  | nil => simp [cellsP]
  | cons s l ih =>
    cases n with
    | zero => simp [cellsP]
    | succ n => rw [show (n + 1) * 2 = n * 2 + 1 + 1 by omega]; simp [cellsP, ih]

theorem Rds.int_at {w : World} {B : Nat} {A : Option Addr} {l : List Int} (h : Rds w B A (cellsI l)) {k : Nat} (hk : k < l.length) :
    ∃ ad, A = some ad ∧ ad.block < B ∧ w.cell? (ad.add k) = some (.int .i64 l[k]) := by
  obtain ⟨ad, e, hlt, hc⟩ := h (by rw [cellsI_len]; omega)
  exact ⟨ad, e, hlt, hc k _ (cellsI_at hk)⟩
theorem Rds.pair_at {w : World} {B : Nat} {A : Option Addr} {l : List Note} (h : Rds w B A (cellsP l)) {k : Nat} (hk : k < l.length) :
    ∃ ad, A = some ad ∧ ad.block < B ∧ w.cell? (ad.add (k * 2)) = some (.int .i64 l[k].1) ∧ w.cell? ⟨(ad.add (k * 2)).block, (ad.add (k * 2)).off + 1, none⟩ = some (.int .i64 l[k].2) := by
  obtain ⟨ad, e, hlt, hc⟩ := h (by rw [cellsP_len]; omega)
  refine ⟨ad, e, hlt, hc _ _ (by rw [cellsP_even, List.getElem?_eq_getElem hk]; rfl), ?_⟩
  rw [← add_succ]
  exact hc _ _ (by rw [cellsP_odd, List.getElem?_eq_getElem hk]; rfl)
theorem Rds.src {w : World} {B : Nat} {A : Option Addr} {l : List Value} (h : Rds w B A l) : Src w A l := fun h0 => by
  obtain ⟨ad, e, _, hc⟩ := h h0
  exact ⟨ad, e, hc⟩

/-- block g holds these cells, from its head on, and may be written -/
def OwnC (w : World) (g : Nat) (cs : List Value) : Prop := g < w.heap.size ∧ ∀ j v, cs[j]? = some v → w.cell? ⟨g, j, none⟩ = some v ∧ w.frozen? ⟨g, j, none⟩ = false
theorem OwnC.rds {w : World} {g : Nat} {cs : List Value} (h : OwnC w g cs) : Rds w w.heap.size (some ⟨g, 0, none⟩) cs := fun _ => ⟨_, rfl, h.1, fun j v hv => by rw [add_zero_head]; exact (h.2 j v hv).1⟩
theorem OwnC.q {w w' : World} {g : Nat} {cs : List Value} (h : OwnC w g cs) (q : Q w w') : OwnC w' g cs :=
  ⟨Nat.lt_of_lt_of_le h.1 q.size, fun i x hx => ⟨(q.cell (p := ⟨g, i, none⟩) h.1).trans (h.2 i x hx).1, (q.frozen (p := ⟨g, i, none⟩) h.1).trans (h.2 i x hx).2⟩⟩
theorem OwnC.far {w : World} {g : Nat} {cs : List Value} (h : OwnC w g cs) {b i : Nat} (hb : b ≠ g) (u : Value) : OwnC (w.setCell ⟨b, i, none⟩ u) g cs :=
  ⟨by simpa [World.setCell] using h.1, fun j v hv => ⟨(World.cell?_setCell_far _ _ _ _ hb).trans (h.2 j v hv).1, by rw [World.frozen?_setCell]; exact (h.2 j v hv).2⟩⟩
theorem OwnC.grown {w w' : World} {g : Nat} {cs : List Value} {row : Option Nat} (h : OwnC w g cs) (hg : w.grownBy w' row) (hr : row ≠ some g) : OwnC w' g cs := by
  have hb := hg.block g h.1 (fun e => hr e.symm)
  exact ⟨Nat.lt_of_lt_of_le h.1 hg.size, fun j v hv => ⟨(World.cell?_of_block (a := ⟨g, j, none⟩) hb).trans (h.2 j v hv).1, (World.frozen?_of_block (a := ⟨g, j, none⟩) hb).trans (h.2 j v hv).2⟩⟩
theorem OwnC.take {w : World} {g : Nat} {cs : List Value} (h : OwnC w g cs) (n : Nat) : OwnC w g (cs.take n) :=
  ⟨h.1, fun j v hv => h.2 j v (by rw [List.getElem?_take] at hv; split at hv; exact hv; cases hv)⟩
theorem setCell_ne {W : World} {B i j : Nat} {v u : Value} (h : i ≠ j) (hc : W.cell? ⟨B, j, none⟩ = some u) : (W.setCell ⟨B, i, none⟩ v).cell? ⟨B, j, none⟩ = some u := by
  have := World.cell?_setCell_other (w := W) (a := ⟨B, i, none⟩) (b := ⟨B, j, none⟩) (v := v) (by intro e; injection e with _ e; exact h e)
  exact this.trans hc
theorem setCell_eq {W : World} {B i : Nat} {v u : Value} (hc : W.cell? ⟨B, i, none⟩ = some u) : (W.setCell ⟨B, i, none⟩ v).cell? ⟨B, i, none⟩ = some v := World.cell?_setCell_same' _ _ _ (by rw [hc]; rfl)
theorem OwnC.set {w : World} {g : Nat} {cs : List Value} (h : OwnC w g cs) {s : Nat} (hs : s < cs.length) (v : Value) : OwnC (w.setCell ⟨g, s, none⟩ v) g (cs.set s v) := by
  refine ⟨by simp [World.setCell]; exact h.1, fun i x hx => ?_⟩
  rw [World.frozen?_setCell]
  by_cases hi : s = i
  · subst hi
    rw [List.getElem?_set_self hs] at hx
    obtain rfl : v = x := by simpa using hx
    have := h.2 s _ (List.getElem?_eq_getElem hs)
    exact ⟨setCell_eq this.1, this.2⟩
  · rw [List.getElem?_set_ne hi] at hx
    exact ⟨setCell_ne hi (h.2 i x hx).1, (h.2 i x hx).2⟩
theorem OwnC.of_row {w : World} {base g n cap size : Nat} {e : TypeId} {cs : List Value} (h : w.ownsRow base e size (.slice (some ⟨g, 0, none⟩) n cap) n cs) : OwnC w g cs := by
  refine ⟨(h.lt g rfl).2, fun j v hv => ⟨?_, h.frozenAt j⟩⟩
  have := h.cells (g := g) rfl j v hv
  rwa [add_zero_head] at this
theorem setCell_grown (w : World) (g j : Nat) (u : Value) : w.grownBy (w.setCell ⟨g, j, none⟩ u) (some g) :=
  ⟨rfl, rfl, rfl, by simp [World.setCell], fun k _ hk => heap_setCell_other w ⟨g, j, none⟩ k u (fun e => hk (by simp [e]))⟩
theorem grown_trans {a b c : World} {row : Option Nat} (h : a.grownBy b row) (k : b.grownBy c row) : a.grownBy c row :=
  ⟨k.os.trans h.os, k.tape.trans h.tape, k.output.trans h.output, Nat.le_trans h.size k.size, fun i hi hr => (k.block i (Nat.lt_of_lt_of_le hi h.size) hr).trans (h.block i hi hr)⟩
theorem grows_q {a b : World} (q : Q a b) (row : Option Nat) : a.grownBy b row := ⟨q.os, q.tape, q.output, q.size, fun i hi _ => q.block i hi⟩
theorem grown_q {a b : World} {g : Nat} (h : a.grownBy b (some g)) {W : World} (hq : Q W a) (hg : W.heap.size ≤ g) : Q W b := Below.grown hq h hq.size (fun k e => by injection e with e; omega)

/-! ### what is taken back -/
structure Cells where
  V : List Int
  N : List Note
  M : List Int
def back1 (n : Note) (v : List Int) : Option (List Int) := if n.1 = -1 then (if v.length = 0 then none else some (v.take (v.length - 1))) else if 0 ≤ n.1 ∧ n.1 < v.length then some (v.set n.1.toNat n.2) else none
/-- the notes of this row are taken back, the first one first -/
def backR : List Note → List Int → Option (List Int)
  | [], v => some v
  | n :: l, v => (back1 n v).bind (backR l)
/-- the notes from the m-th on are taken back, the last one first -/
def backs (N : List Note) (V : List Int) : Option (List Int) := backR N.reverse V
theorem take_rev (N : List Note) (k : Nat) (h : k < N.length) : (N.take (k + 1)).reverse = N[k] :: (N.take k).reverse := by
  rw [List.take_succ_eq_append_getElem h, List.reverse_append]; rfl
theorem backR_at (N : List Note) (k : Nat) (h : k < N.length) (v : List Int) : backR (N.take (k + 1)).reverse v = (back1 N[k] v).bind (backR (N.take k).reverse) := by rw [take_rev N k h]; rfl
theorem backR_append (a b : List Note) (v : List Int) : backR (a ++ b) v = (backR a v).bind (backR b) := by
  induction a generalizing v with
  | nil => rfl
  | cons n l ih =>
    show (back1 n v).bind (backR (l ++ b)) = ((back1 n v).bind (backR l)).bind (backR b)
    cases back1 n v with
    | none => rfl
    | some v' => exact ih v'
theorem back1_len {n : Note} {v v' : List Int} (h : back1 n v = some v') : v'.length ≤ v.length := by
  unfold back1 at h
  split at h
  · split at h
    · cases h
    · injection h with h; subst h; simp
  · split at h
    · injection h with h; subst h; simp
    · cases h
theorem backR_len {l : List Note} {v v' : List Int} (h : backR l v = some v') : v'.length ≤ v.length := by
  induction l generalizing v with
  | nil => injection h with h; subst h; omega
  | cons n l ih =>
    have h' : (back1 n v).bind (backR l) = some v' := h
    cases e : back1 n v with
    | none => rw [e] at h'; cases h'
    | some u =>
      rw [e] at h'
      have := ih (v := u) h'
      have := back1_len e
      omega
/-- how many are left, behind a note that is taken back -/
def cnt1 (a : Int) (m : Int) : Int := if a = -1 then m - 1 else m
def ok1 (a : Int) (m : Int) : Bool := if a = -1 then decide (0 < m) else decide (0 ≤ a) && decide (a < m)
def cntR : List Note → Nat → Option Nat
  | [], m => some m
  | n :: l, m => if ok1 n.1 m then cntR l (cnt1 n.1 m).toNat else none
theorem back1_ok (n : Note) (v : List Int) : (back1 n v).isSome = ok1 n.1 v.length := by
  unfold back1 ok1
  by_cases h : n.1 = -1
  · rw [if_pos h, if_pos h]
    by_cases h0 : v.length = 0
    · rw [if_pos h0, h0]; rfl
    · rw [if_neg h0]; symm; exact decide_eq_true (by omega)
  · rw [if_neg h, if_neg h]
    by_cases h0 : 0 ≤ n.1 ∧ n.1 < v.length
    · rw [if_pos h0, decide_eq_true h0.1, decide_eq_true h0.2]; rfl
    · rw [if_neg h0]
      by_cases h1 : 0 ≤ n.1
      · have h2 : ¬ n.1 < v.length := fun h2 => h0 ⟨h1, h2⟩
        rw [decide_eq_false h2, Bool.and_false]; rfl
      · rw [decide_eq_false h1]; rfl
theorem back1_cnt {n : Note} {v v' : List Int} (h : back1 n v = some v') : (v'.length : Int) = cnt1 n.1 v.length := by
  unfold back1 at h
  unfold cnt1
  by_cases h1 : n.1 = -1
  · rw [if_pos h1] at h ⊢
    by_cases h0 : v.length = 0
    · rw [if_pos h0] at h; cases h
    · rw [if_neg h0] at h; injection h with h; subst h; simp; omega
  · rw [if_neg h1] at h ⊢
    by_cases h0 : 0 ≤ n.1 ∧ n.1 < v.length
    · rw [if_pos h0] at h; injection h with h; subst h; simp
    · rw [if_neg h0] at h; cases h
theorem backR_cnt (l : List Note) (v : List Int) : (backR l v).map (·.length) = cntR l v.length := by
  induction l generalizing v with
  | nil => rfl
  | cons n l ih =>
    show ((back1 n v).bind (backR l)).map (·.length) = if ok1 n.1 v.length then cntR l (cnt1 n.1 v.length).toNat else none
    rw [← back1_ok]
    cases e : back1 n v with
    | none => rfl
    | some u =>
      have := back1_cnt e
      show (backR l u).map (·.length) = cntR l (cnt1 n.1 v.length).toNat
      rw [ih, ← this]; rfl
/-- marks: from p on they don't fall, and are n at most -/
def mkB (n : Int) (p : Int) : List Int → Bool
  | [] => true
  | x :: l => decide (p ≤ x) && decide (x ≤ n) && mkB n x l
theorem mkB_at (n p : Int) (M : List Int) (k : Nat) (h : k < M.length) : mkB n p (M.drop k) = (decide (p ≤ M[k]) && decide (M[k] ≤ n) && mkB n M[k] (M.drop (k + 1))) := by
  rw [List.drop_eq_getElem_cons h]; rfl
theorem mkB_end (n p : Int) (M : List Int) (k : Nat) (h : M.length ≤ k) : mkB n p (M.drop k) = true := by
  rw [List.drop_eq_nil_of_le h]; rfl
def rightB (c : Cells) : Bool := mkB c.N.length 0 c.M && (backs c.N c.V).isSome
theorem mkB_append (n p : Int) (a b : List Int) : mkB n p (a ++ b) = (mkB n p a && mkB n (a.getLastD p) b) := by
  induction a generalizing p with
  | nil => simp [mkB]
  | cons x l ih => 
    have e : (x :: l).getLastD p = l.getLastD x := by cases l <;> simp [List.getLastD]
    rw [List.cons_append, mkB, mkB, ih, e]
    simp only [Bool.and_assoc]

/-! ### leaves -/
set_option maxHeartbeats 400000 in
theorem place_any (a m : Int) (w : World) : Calls Try.prog 45 #[.int .i64 a, .int .i64 m] w fun e w' => e = .returned (.bool (decide (0 ≤ a) && decide (a < m))) ∧ w = w' := by
  by_cases h : 0 ≤ a
  · have hd : decide (0 ≤ a) = true := decide_eq_true h
    rw [hd]
    go_enter Try.func45, Try.ntmps45
    go_wp2_with fail
    go_ret
    exact ⟨rfl, rfl⟩
  · have hd : decide (0 ≤ a) = false := decide_eq_false h
    rw [hd]
    go_enter Try.func45, Try.ntmps45
    go_wp2_with fail
    go_ret
    exact ⟨rfl, rfl⟩

theorem intInfo : (Try.prog.info? 3).map (fun i => (i.zero, i.size, i.bytes)) = some (some (.int .i64 0), 1, 8) := by kernel_rfl
theorem noteInfo : (Try.prog.info? 64).map (fun i => (i.zero, i.size, i.bytes)) = some (some (.agg #[.int .i64 0, .int .i64 0]), 2, 16) := by kernel_rfl
/-- a copy: in a block of its own, with room for one more -/
def CopyRow (E : TypeId) (size n : Nat) (cs : List Value) (w : World) (e : Ending) (w' : World) : Prop :=
  ∃ g, e = .returned (.slice (some ⟨g, 0, none⟩) n (n + 1)) ∧ w'.ownsRow w.heap.size E size (.slice (some ⟨g, 0, none⟩) n (n + 1)) n cs ∧ Q w w'


set_option maxRecDepth 100000 in
set_option maxHeartbeats 1000000 in
theorem copyI_any (A : Option Addr) (n c : Nat) (l : List Int) (w : World) (hn : n = l.length) (hr : Rds w w.heap.size A (cellsI l)) (hl : l.length ≤ 1000000) :
    Calls Try.prog 48 #[.slice A n c] w (CopyRow 3 1 l.length (cellsI l) w) := by
  subst hn
  obtain ⟨i0, hi, hz0, hz1, hz2⟩ := info_parts intInfo
  have hmk : ∀ u : World, (Instr.makeSlice 22 (.int .i64 (l.length : Int)) (.int .i64 ((l.length : Int) + 1))).run Try.prog u =
      .ok (.slice (some ⟨u.heap.size, 0, none⟩) l.length (l.length + 1)) (u.alloc (.cells (madeCells #[.int .i64 0] (l.length + 1)) 3)) := fun u => by
    have h := run_make (P := Try.prog) u 22 3 i0 _ Try.underlying22 hi hz0 .i64 .i64 (l.length : Int) ((l.length : Int) + 1) (by omega) (by omega) (by rw [hz2]; omega) (by omega)
    have e1 : ((l.length : Int) + 1).toNat = l.length + 1 := by omega
    have e2 : ((l.length : Int)).toNat = l.length := by omega
    rw [e1, e2, hz1, Nat.mul_one] at h
    exact h
  have hsz : (Try.prog.info? 3).map (·.size) = some 1 := by rw [hi]; simp [hz1]
  have q1 := (Q.refl w).alloc (Obj.cells (madeCells #[.int .i64 0] (l.length + 1)) 3)
  have hr' := hr.q q1
  have hlen : (cellsI l).length = l.length * 1 := by simp [cellsI_len]
  obtain ⟨w2, hcp, hg2, hgr⟩ := run_copy_all (P := Try.prog) (w.alloc (Obj.cells (madeCells #[.int .i64 0] (l.length + 1)) 3))
    22 22 3 3 1 w.heap.size l.length (l.length + 1) A c _ 3 (cellsI l) Try.underlying22 hsz (heap_alloc_new w _) hlen (by omega)
    (fun h0 => by obtain ⟨ad, e, _, hc⟩ := hr' h0; exact ⟨ad, e, hc⟩) (by rw [hlen, size_madeCells]; omega) (cellsI_one l)
  clear hsz hi hz0 hz1 hz2 hr'
  have q2 : Q w w2 := q1.grown hgr (by simp) (by simp)
  have own2 : Hid (w2.ownsRow w.heap.size 3 1 (.slice (some ⟨w.heap.size, 0, none⟩) l.length (l.length + 1)) l.length (cellsI l)) :=
    ⟨hlen, .inr ⟨_, _, _, rfl, by omega, hg2, by omega, by unfold maxLen; omega, by simp [hlen, size_madeCells], by rw [← hlen]; simp⟩⟩
  clear hg2 hgr hr hlen q1
  go_enter Try.func48, Try.ntmps48
  go_wp2_with fail
  go_ret
  exact ⟨w.heap.size, rfl, own2.out, q2⟩

set_option maxRecDepth 100000 in
set_option maxHeartbeats 1000000 in
theorem copyP_any (A : Option Addr) (n c : Nat) (l : List Note) (w : World) (hn : n = l.length) (hr : Rds w w.heap.size A (cellsP l)) (hl : l.length ≤ 1000000) :
    Calls Try.prog 49 #[.slice A n c] w (CopyRow 64 2 l.length (cellsP l) w) := by
  subst hn
  obtain ⟨i0, hi, hz0, hz1, hz2⟩ := info_parts noteInfo
  have hmk : ∀ u : World, (Instr.makeSlice 23 (.int .i64 (l.length : Int)) (.int .i64 ((l.length : Int) + 1))).run Try.prog u =
      .ok (.slice (some ⟨u.heap.size, 0, none⟩) l.length (l.length + 1)) (u.alloc (.cells (madeCells #[.int .i64 0, .int .i64 0] ((l.length + 1) * 2)) 64)) := fun u => by
    have h := run_make (P := Try.prog) u 23 64 i0 _ Try.underlying23 hi hz0 .i64 .i64 (l.length : Int) ((l.length : Int) + 1) (by omega) (by omega) (by rw [hz2]; omega) (by omega)
    have e1 : ((l.length : Int) + 1).toNat = l.length + 1 := by omega
    have e2 : ((l.length : Int)).toNat = l.length := by omega
    rw [e1, e2, hz1] at h
    exact h
  have hsz : (Try.prog.info? 64).map (·.size) = some 2 := by rw [hi]; simp [hz1]
  have q1 := (Q.refl w).alloc (Obj.cells (madeCells #[.int .i64 0, .int .i64 0] ((l.length + 1) * 2)) 64)
  have hr' := hr.q q1
  have hlen : (cellsP l).length = l.length * 2 := by rw [cellsP_len]
  obtain ⟨w2, hcp, hg2, hgr⟩ := run_copy_all (P := Try.prog) (w.alloc (Obj.cells (madeCells #[.int .i64 0, .int .i64 0] ((l.length + 1) * 2)) 64))
    23 23 3 64 2 w.heap.size l.length (l.length + 1) A c _ 64 (cellsP l) Try.underlying23 hsz (heap_alloc_new w _) hlen (by omega)
    (fun h0 => by obtain ⟨ad, e, _, hc⟩ := hr' h0; exact ⟨ad, e, hc⟩) (by rw [hlen, size_madeCells]; omega) (cellsP_one l)
  clear hsz hi hz0 hz1 hz2 hr'
  have q2 : Q w w2 := q1.grown hgr (by simp) (by simp)
  have own2 : Hid (w2.ownsRow w.heap.size 64 2 (.slice (some ⟨w.heap.size, 0, none⟩) l.length (l.length + 1)) l.length (cellsP l)) :=
    ⟨hlen, .inr ⟨_, _, _, rfl, by omega, hg2, by omega, by unfold maxLen; omega, by simp [hlen, size_madeCells]; omega, by rw [← hlen]; simp⟩⟩
  clear hg2 hgr hr hlen q1
  go_enter Try.func49, Try.ntmps49
  go_wp2_with fail
  go_ret
  exact ⟨w.heap.size, rfl, own2.out, q2⟩

theorem count_any (n : Note) (m : Nat) (w : World) (hm : m ≤ 1000000) : Calls Try.prog 50 #[.agg #[.int .i64 n.1, .int .i64 n.2], .int .i64 (m : Int)] w fun e w' => e = .returned (.tuple #[.int .i64 (cnt1 n.1 m), .bool (ok1 n.1 m)]) ∧ Q w w' := by
  by_cases h : n.1 = -1
  · have H1 : Hid (cnt1 n.1 m = (m : Int) - 1) := by unfold Hid cnt1; rw [if_pos h]
    have H2 : Hid (ok1 n.1 m = decide (0 < (m : Int))) := by unfold Hid ok1; rw [if_pos h]
    have hd : (n.1 == -1) = true := by rw [h]; rfl
    clear h
    go_enter Try.func50, Try.ntmps50
    go_wp2_with fail
    go_ret2
    exact ⟨by rw [H1.out, H2.out]; simp, (Q.refl _).alloc _⟩
  · have H1 : Hid (cnt1 n.1 m = (m : Int)) := by unfold Hid cnt1; rw [if_neg h]
    have H2 : Hid (ok1 n.1 m = (decide (0 ≤ n.1) && decide (n.1 < (m : Int)))) := by unfold Hid ok1; rw [if_neg h]
    have hd : (n.1 == -1) = false := by simpa using h
    clear h
    go_enter Try.func50, Try.ntmps50
    go_wp2_with fail
    refine (place_any _ _ _).mono ?_
    rintro e w1 ⟨rfl, rfl⟩
    go_wp2_with fail
    go_ret2
    exact ⟨by rw [H1.out, H2.out]; rfl, (Q.refl _).alloc _⟩
end Go.Proofs.Ytodmompfnlcjpaa.Tr
