/-
  The reader in memory: what its cells and its two rows hold, and how a store or an append turns it. Contract of isSign.
-/
import Derived.Test.YtmbdbmjnibfmgaaDoorExprN
import Derived.Test.YtmbdbmjnibfmgaaDoorExprF
import Derived.Deep.QuietTactic
import Derived.BigQuiet
namespace Go.Proofs.YtmbdbmjnibfmgaaDoor.Ex
open Go.RowKit Kit Rw
open Go.Proofs.YtmbdbmjnibfmgaaDoor.Nm

/-- a level: the node whose bracket it is, and what stands between its parts -/
abbrev Lv := Tg × ByteArray
def cellsV : List Lv → List Value
  | [] => []
  | t :: l => .int .i64 t.1.1 :: .string t.1.2.1 :: .int .i64 t.1.2.2 :: .string t.2 :: cellsV l
theorem cellsV_len (l : List Lv) : (cellsV l).length = l.length * 4 := by
  induction l with
  | nil => rfl
  | cons s l ih => simp [cellsV, ih]; omega
theorem cellsV_append (a b : List Lv) : cellsV (a ++ b) = cellsV a ++ cellsV b := by
  induction a with
  | nil => rfl
  | cons s l ih => simp [cellsV, ih]
theorem cellsV_one (l : List Lv) : ∀ v ∈ cellsV l, v.oneCell' = true := by
  induction l with
  | nil => simp [cellsV]
  | cons s l ih => simp only [cellsV, List.mem_cons]; rintro v (rfl | rfl | rfl | rfl | h); exact rfl; exact rfl; exact rfl; exact rfl; exact ih v h

structure RS (W0 w : World) (B : Nat) (A : Option Addr) (c : Nat) (toks : List Tg) (p : Nat) (ns : List Tg) (ss : List Lv) (v u : Value) : Prop where
  q : Q W0 w
  tk : Rds w W0.heap.size A (cellsG toks)
  hN : W0.heap.size ≤ B
  box : OwnC w B [.slice A toks.length c, .int .i64 (p : Int), v, u]
  nod : w.ownsRow W0.heap.size 38 3 v ns.length (cellsG ns)
  stk : w.ownsRow W0.heap.size 80 4 u ss.length (cellsV ss)
  vB : v.ownBlock ≠ some B
  uB : u.ownBlock ≠ some B
  vu : ∀ g, v.ownBlock = some g → u.ownBlock ≠ some g

section
variable {W0 w : World} {B : Nat} {A : Option Addr} {c : Nat} {toks : List Tg} {p : Nat} {ns : List Tg} {ss : List Lv} {v u : Value}
theorem RS.more (h : RS W0 w B A c toks p ns ss v u) {w' : World} (q : Q w w') : RS W0 w' B A c toks p ns ss v u :=
  ⟨h.q.trans q, h.tk.keep (q.mono h.q.size), h.hN, h.box.q q, row_kept h.nod q (Nat.le_refl _), row_kept h.stk q (Nat.le_refl _), h.vB, h.uB, h.vu⟩
theorem RS.cells (h : RS W0 w B A c toks p ns ss v u) : w.cell? ⟨B, 0, none⟩ = some (.slice A toks.length c) ∧ w.cell? ⟨B, 1, none⟩ = some (.int .i64 (p : Int)) ∧ w.cell? ⟨B, 2, none⟩ = some v ∧ w.cell? ⟨B, 3, none⟩ = some u :=
  ⟨(h.box.2 0 _ rfl).1, (h.box.2 1 _ rfl).1, (h.box.2 2 _ rfl).1, (h.box.2 3 _ rfl).1⟩
theorem RS.thaw (h : RS W0 w B A c toks p ns ss v u) : w.frozen? ⟨B, 1, none⟩ = false ∧ w.frozen? ⟨B, 2, none⟩ = false ∧ w.frozen? ⟨B, 3, none⟩ = false :=
  ⟨(h.box.2 1 _ rfl).2, (h.box.2 2 _ rfl).2, (h.box.2 3 _ rfl).2⟩
/-- a store into the reader itself -/
theorem RS.store (h : RS W0 w B A c toks p ns ss v u) (k : Nat) (x : Value) :
    Q W0 (w.setCell ⟨B, k, none⟩ x) ∧ Rds (w.setCell ⟨B, k, none⟩ x) W0.heap.size A (cellsG toks) ∧ (w.setCell ⟨B, k, none⟩ x).ownsRow W0.heap.size 38 3 v ns.length (cellsG ns) ∧
      (w.setCell ⟨B, k, none⟩ x).ownsRow W0.heap.size 80 4 u ss.length (cellsV ss) := by
  have hg := setCell_grown w B k x
  refine ⟨grown_q hg h.q h.hN, ?_, h.nod.kept hg (.inr h.vB), h.stk.kept hg (.inr h.uB)⟩
  exact h.tk.keep (Below.grown (Below.refl W0.heap.size w) hg h.q.size (fun k e => by injection e with e; have := h.hN; omega))
theorem RS.setAt (h : RS W0 w B A c toks p ns ss v u) (p' : Nat) : RS W0 (w.setCell ⟨B, 1, none⟩ (.int .i64 (p' : Int))) B A c toks p' ns ss v u := by
  obtain ⟨a1, a2, a3, a4⟩ := h.store 1 (.int .i64 (p' : Int))
  exact ⟨a1, a2, h.hN, by have := h.box.set (s := 1) (by simp) (.int .i64 (p' : Int)); exact this, a3, a4, h.vB, h.uB, h.vu⟩
/-- an append onto the nodes -/
theorem RS.addNodes (h : RS W0 w B A c toks p ns ss v u) {w' : World} {v' : Value} {xs : List Tg} (own : w'.ownsRow W0.heap.size 38 3 v' (ns.length + xs.length) (cellsG ns ++ cellsG xs)) (gr : w.grownBy w' v.ownBlock)
    (bl : v'.ownBlock = v.ownBlock ∨ v'.ownBlock = some w.heap.size) : RS W0 (w'.setCell ⟨B, 2, none⟩ v') B A c toks p (ns ++ xs) ss v' u := by
  have hu : w'.ownsRow W0.heap.size 80 4 u ss.length (cellsV ss) := h.stk.kept gr (by
    cases hu : u.ownBlock with
    | none => exact .inl rfl
    | some g => exact .inr fun e => h.vu g e.symm hu)
  have hb := h.box.grown gr h.vB
  have hB' := h.box.1
  have hvb : v'.ownBlock ≠ some B := by
    rcases bl with e | e
    · rw [e]; exact h.vB
    · rw [e]; intro e'; injection e' with e'; omega
  have hq : Q W0 w' := Below.grown h.q gr h.q.size (fun k e => (h.nod.lt k e).1)
  have ht : Rds w' W0.heap.size A (cellsG toks) := h.tk.keep (Below.grown (Below.refl W0.heap.size w) gr h.q.size (fun k e => (h.nod.lt k e).1))
  have hg := setCell_grown w' B 2 v'
  refine ⟨grown_q hg hq h.hN, ht.keep (Below.grown (Below.refl W0.heap.size w') hg hq.size (fun k e => by injection e with e; have := h.hN; omega)), h.hN, by have := hb.set (s := 2) (by simp) v'; exact this, ?_, hu.kept hg (.inr h.uB), hvb, h.uB, ?_⟩
  · rw [List.length_append, cellsG_append]; exact own.kept hg (.inr hvb)
  · intro g e1 e2
    rcases bl with e | e
    · exact h.vu g (by rw [← e]; exact e1) e2
    · have := (h.stk.lt g e2).2
      rw [e] at e1
      injection e1 with e1
      omega
/-- an append onto the stack -/
theorem RS.addLevel (h : RS W0 w B A c toks p ns ss v u) {w' : World} {u' : Value} {xs : List Lv} (own : w'.ownsRow W0.heap.size 80 4 u' (ss.length + xs.length) (cellsV ss ++ cellsV xs)) (gr : w.grownBy w' u.ownBlock)
    (bl : u'.ownBlock = u.ownBlock ∨ u'.ownBlock = some w.heap.size) : RS W0 (w'.setCell ⟨B, 3, none⟩ u') B A c toks p ns (ss ++ xs) v u' := by
  have hv : w'.ownsRow W0.heap.size 38 3 v ns.length (cellsG ns) := h.nod.kept gr (by
    cases hv : v.ownBlock with
    | none => exact .inl rfl
    | some g => exact .inr fun e => h.vu g hv e.symm)
  have hb := h.box.grown gr h.uB
  have hB' := h.box.1
  have hub : u'.ownBlock ≠ some B := by
    rcases bl with e | e
    · rw [e]; exact h.uB
    · rw [e]; intro e'; injection e' with e'; omega
  have hq : Q W0 w' := Below.grown h.q gr h.q.size (fun k e => (h.stk.lt k e).1)
  have ht : Rds w' W0.heap.size A (cellsG toks) := h.tk.keep (Below.grown (Below.refl W0.heap.size w) gr h.q.size (fun k e => (h.stk.lt k e).1))
  have hg := setCell_grown w' B 3 u'
  refine ⟨grown_q hg hq h.hN, ht.keep (Below.grown (Below.refl W0.heap.size w') hg hq.size (fun k e => by injection e with e; have := h.hN; omega)), h.hN, by have := hb.set (s := 3) (by simp) u'; exact this, hv.kept hg (.inr h.vB), ?_, h.vB, hub, ?_⟩
  · rw [List.length_append, cellsV_append]; exact own.kept hg (.inr hub)
  · intro g e1 e2
    rcases bl with e | e
    · exact h.vu g e1 (by rw [← e]; exact e2)
    · have := (h.nod.lt g e1).2
      rw [e] at e2
      injection e2 with e2
      omega
/-- the last level -/
theorem RS.top {bs : List Lv} {lv : Lv} (h : RS W0 w B A c toks p ns (bs ++ [lv]) v u) : ∃ g cap, u = .slice (some ⟨g, 0, none⟩) (bs.length + 1) cap ∧ bs.length + 1 ≤ cap ∧ g ≠ B ∧ g < w.heap.size ∧
    w.cell? ⟨g, bs.length * 4, none⟩ = some (.int .i64 lv.1.1) ∧ w.cell? ⟨g, bs.length * 4 + 1, none⟩ = some (.string lv.1.2.1) ∧ w.cell? ⟨g, bs.length * 4 + 2, none⟩ = some (.int .i64 lv.1.2.2) ∧ w.cell? ⟨g, bs.length * 4 + 3, none⟩ = some (.string lv.2) ∧
    (∀ j, w.frozen? ⟨g, j, none⟩ = false) := by
  have h2 := h.stk
  obtain ⟨hl, ⟨rfl, h0⟩ | ⟨g, cap, cur, rfl, hg, hh, hc, _⟩⟩ := h.stk
  · simp at h0
  · have hlen : (bs ++ [lv]).length = bs.length + 1 := by simp
    rw [hlen] at h2 hc
    have hcell : ∀ j, j < 4 → w.cell? ⟨g, bs.length * 4 + j, none⟩ = (cellsV [lv])[j]? := fun j hj => by
      rw [h2.cellAt _ (by omega), cellsV_append, List.getElem?_append_right (by rw [cellsV_len]; omega), cellsV_len]
      congr 1
      omega
    refine ⟨g, cap, by rw [hlen], hc, fun e => h.uB (by rw [← e]; rfl), (h2.lt g rfl).2, hcell 0 (by omega), hcell 1 (by omega), hcell 2 (by omega), hcell 3 (by omega), h2.frozenAt⟩
/-- a store into the last level -/
theorem RS.setLevel {bs : List Lv} {lv lv' : Lv} {g cap k : Nat} {x : Value} (h : RS W0 w B A c toks p ns (bs ++ [lv]) v (.slice (some ⟨g, 0, none⟩) (bs.length + 1) cap)) (hk : (cellsV [lv]).set k x = cellsV [lv']) (h4 : k < 4) :
    RS W0 (w.setCell ⟨g, bs.length * 4 + k, none⟩ x) B A c toks p ns (bs ++ [lv']) v (.slice (some ⟨g, 0, none⟩) (bs.length + 1) cap) := by
  have hs := h.stk
  have hlen : (bs ++ [lv]).length = bs.length + 1 := by simp
  rw [hlen] at hs
  obtain ⟨hs1, hg⟩ := hs.stored (bs.length * 4 + k) x
  have hgN := (hs.lt g rfl).1
  have hgB : g ≠ B := fun e => h.uB (by rw [← e]; rfl)
  refine ⟨grown_q hg h.q hgN, h.tk.keep (Below.grown (Below.refl W0.heap.size w) hg h.q.size (fun k e => by injection e with e; omega)), h.hN, h.box.grown hg (fun e => hgB (by injection e)), ?_, ?_, h.vB, h.uB, h.vu⟩
  · refine h.nod.kept hg ?_
    cases hv : v.ownBlock with
    | none => exact .inl rfl
    | some g' => exact .inr fun e => h.vu g' hv (by rw [e]; rfl)
  · have e : cellsV (bs ++ [lv']) = (cellsV (bs ++ [lv])).set (bs.length * 4 + k) x := by
      rw [cellsV_append, cellsV_append, ← hk, List.set_append_right _ _ (by rw [cellsV_len]; omega), cellsV_len]
      congr 2
      omega
    rw [e]
    simpa using hs1
theorem RS.pop {bs : List Lv} {lv : Lv} {g cap : Nat} (h : RS W0 w B A c toks p ns (bs ++ [lv]) v (.slice (some ⟨g, 0, none⟩) (bs.length + 1) cap)) :
    RS W0 (w.setCell ⟨B, 3, none⟩ (.slice (some ⟨g, 0, none⟩) bs.length cap)) B A c toks p ns bs v (.slice (some ⟨g, 0, none⟩) bs.length cap) := by
  obtain ⟨a1, a2, a3, a4⟩ := h.store 3 (.slice (some ⟨g, 0, none⟩) bs.length cap)
  refine ⟨a1, a2, h.hN, by have := h.box.set (s := 3) (by simp) (.slice (some ⟨g, 0, none⟩) bs.length cap); exact this, a3, ?_, h.vB, h.uB, h.vu⟩
  obtain ⟨hl, ⟨e, h0⟩ | ⟨g', cap', cur, e, hg, hh, hc, hm, hcs, ht⟩⟩ := a4
  · simp at h0
  · injection e with e1 e2 e3
    injection e1 with e1
    injection e1 with e1
    subst e1 e3
    have hlen : (bs ++ [lv]).length = bs.length + 1 := by simp
    rw [hlen] at hc ht
    refine ⟨cellsV_len bs, .inr ⟨g, cap, cur, rfl, hg, hh, by omega, hm, hcs, ?_⟩⟩
    have e1 : (cur.toList.take ((bs.length + 1) * 4)).take (bs.length * 4) = cur.toList.take (bs.length * 4) := by rw [List.take_take, Nat.min_eq_left (by omega)]
    rw [← e1, ht, cellsV_append, List.take_append_of_le_length (by rw [cellsV_len]; exact Nat.le_refl _), List.take_of_length_le (by rw [cellsV_len]; exact Nat.le_refl _)]
end

/-- is a sign the next token -/
def isSg (toks : List Tg) (p : Nat) (s : ByteArray) : Bool := match toks[p]? with
  | some t => (t.1 == 3) && eqS t.2.1 s
  | none => false
set_option maxHeartbeats 2000000 in
theorem isSign_any (W0 w : World) (B : Nat) (A : Option Addr) (c : Nat) (toks : List Tg) (p : Nat) (ns : List Tg) (ss : List Lv) (v u : Value) (s : ByteArray) (h : RS W0 w B A c toks p ns ss v u) :
    Calls Tryd.prog 47 #[.pointer (some ⟨B, 0, none⟩), .string s] w fun e w' => e = .returned (.bool (isSg toks p s)) ∧ Q w w' := by
  obtain ⟨b0, b1, _, _⟩ := h.cells
  by_cases hp : p < toks.length
  · obtain ⟨ad, rfl, hb, c0, c1, c2⟩ := tok_at h.tk hp
    have HE : Hid (isSg toks p s = ((toks[p].1 == 3) && eqS toks[p].2.1 s)) := by unfold Hid isSg; rw [List.getElem?_eq_getElem hp]
    have d0 : decide ((p : Int) < (toks.length : Int)) = true := decide_eq_true (by omega)
    clear h
    generalize toks[p].1 = k at *
    generalize toks[p].2.1 = t at *
    cases hk : (k == 3)
    · rw [hk, Bool.false_and] at HE
      go_enter Tryd.func47, Tryd.ntmps47
      go_wp2_with fail
      go_quiet (fail)
      go_wp2_with fail
      go_ret
      exact ⟨by rw [HE.out]; rfl, (Q.refl _).drewN _⟩
    · rw [hk, Bool.true_and] at HE
      go_enter Tryd.func47, Tryd.ntmps47
      go_wp2_with fail
      go_quiet (fail)
      go_wp2_with fail
      go_ret
      exact ⟨by rw [HE.out]; rfl, (Q.refl _).drewN _⟩
  · have HE : Hid (isSg toks p s = false) := by unfold Hid isSg; rw [List.getElem?_eq_none (by omega)]
    have d0 : decide ((p : Int) < (toks.length : Int)) = false := decide_eq_false (by omega)
    clear h
    go_enter Tryd.func47, Tryd.ntmps47
    go_wp2_with fail
    go_quiet (fail)
    go_wp2_with fail
    go_ret
    exact ⟨by rw [HE.out]; rfl, (Q.refl _).drewN _⟩
end Go.Proofs.YtmbdbmjnibfmgaaDoor.Ex
