/-
  What the proofs lean on, part 7 of 20.
-/
import Derived.Test.YtnifmfdlocgefaaGreatPd
import Derived.Test.YtnifmfdlocgefaaGreatPe
import Derived.Test.YtnifmfdlocgefaaGreatPf
import Derived.Laws.OwnMore
import Derived.Lib.SliceRun
import Derived.Laws.EntriesVeiled
namespace Go.Proofs.YtnifmfdlocgefaaGreat.Ig
open Go.RowKit Kit Tr Uf
open Go.Proofs.YtnifmfdlocgefaaGreat.Hs (Keys Ints BoxT)
/-- a copy: in a block of its own -/
def CopyR (E : TypeId) (size n : Nat) (cs : List Value) (w : World) (e : Ending) (w' : World) : Prop :=
  ∃ g, e = .returned (.slice (some ⟨g, 0, none⟩) n n) ∧ w'.ownsRow w.heap.size E size (.slice (some ⟨g, 0, none⟩) n n) n cs ∧ Q w w'

set_option maxRecDepth 100000 in
set_option maxHeartbeats 1000000 in
theorem copyI12 (A : Option Addr) (n c : Nat) (l : List Int) (w : World) (hn : n = l.length) (hr : Tr.Rds w w.heap.size A (cellsI l)) (hl : l.length ≤ 1000000) :
    Calls Tryz.prog 183 #[.slice A n c] w (CopyR 3 1 l.length (cellsI l) w) := by
  subst hn
  obtain ⟨i0, hi, hz0, hz1, hz2⟩ := info_parts Tr.intInfo
  have hmk : ∀ u : World, (Instr.makeSlice 24 (.int .i64 (l.length : Int)) (.int .i64 (l.length : Int))).run Tryz.prog u =
      .ok (.slice (some ⟨u.heap.size, 0, none⟩) l.length l.length) (u.alloc (.cells (madeCells #[.int .i64 0] l.length) 3)) := fun u => by
    have h := run_make (P := Tryz.prog) u 24 3 i0 _ Tryz.underlying24 hi hz0 .i64 .i64 (l.length : Int) (l.length : Int) (by omega) (by omega) (by rw [hz2]; omega) (by omega)
    have e2 : ((l.length : Int)).toNat = l.length := by omega
    rw [e2, hz1, Nat.mul_one] at h
    exact h
  have hsz : (Tryz.prog.info? 3).map (·.size) = some 1 := by rw [hi]; simp [hz1]
  have q1 := (Q.refl w).alloc (Obj.cells (madeCells #[.int .i64 0] l.length) 3)
  have hr' := hr.q q1
  have hlen : (cellsI l).length = l.length * 1 := by simp [cellsI_len]
  obtain ⟨w2, hcp, hg2, hgr⟩ := run_copy_all (P := Tryz.prog) (w.alloc (Obj.cells (madeCells #[.int .i64 0] l.length) 3))
    24 24 3 3 1 w.heap.size l.length l.length A c _ 3 (cellsI l) Tryz.underlying24 hsz (heap_alloc_new w _) hlen (by omega)
    (fun h0 => by obtain ⟨ad, e, _, hc⟩ := hr' h0; exact ⟨ad, e, hc⟩) (by rw [hlen, size_madeCells]; omega) (cellsI_one l)
  clear hsz hi hz0 hz1 hz2 hr'
  have q2 : Q w w2 := q1.grown hgr (by simp) (by simp)
  have own2 : Hid (w2.ownsRow w.heap.size 3 1 (.slice (some ⟨w.heap.size, 0, none⟩) l.length l.length) l.length (cellsI l)) :=
    ⟨hlen, .inr ⟨_, _, _, rfl, by omega, hg2, by omega, by unfold maxLen; omega, by simp [hlen, size_madeCells], by rw [← hlen]; simp⟩⟩
  clear hg2 hgr hr hlen q1
  go_enter Tryz.func183, Tryz.ntmps183
  go_wp2_with fail
  go_ret
  exact ⟨w.heap.size, rfl, own2.out, q2⟩

set_option maxRecDepth 100000 in
set_option maxHeartbeats 1000000 in
theorem copyP12 (A : Option Addr) (n c : Nat) (l : List Note) (w : World) (hn : n = l.length) (hr : Tr.Rds w w.heap.size A (cellsP l)) (hl : l.length ≤ 1000000) :
    Calls Tryz.prog 184 #[.slice A n c] w (CopyR 195 2 l.length (cellsP l) w) := by
  subst hn
  obtain ⟨i0, hi, hz0, hz1, hz2⟩ := info_parts Tr.noteInfo
  have hmk : ∀ u : World, (Instr.makeSlice 27 (.int .i64 (l.length : Int)) (.int .i64 (l.length : Int))).run Tryz.prog u =
      .ok (.slice (some ⟨u.heap.size, 0, none⟩) l.length l.length) (u.alloc (.cells (madeCells #[.int .i64 0, .int .i64 0] (l.length * 2)) 195)) := fun u => by
    have h := run_make (P := Tryz.prog) u 27 195 i0 _ Tryz.underlying27 hi hz0 .i64 .i64 (l.length : Int) (l.length : Int) (by omega) (by omega) (by rw [hz2]; omega) (by omega)
    have e2 : ((l.length : Int)).toNat = l.length := by omega
    rw [e2, hz1] at h
    exact h
  have hsz : (Tryz.prog.info? 195).map (·.size) = some 2 := by rw [hi]; simp [hz1]
  have q1 := (Q.refl w).alloc (Obj.cells (madeCells #[.int .i64 0, .int .i64 0] (l.length * 2)) 195)
  have hr' := hr.q q1
  have hlen : (cellsP l).length = l.length * 2 := by rw [cellsP_len]
  obtain ⟨w2, hcp, hg2, hgr⟩ := run_copy_all (P := Tryz.prog) (w.alloc (Obj.cells (madeCells #[.int .i64 0, .int .i64 0] (l.length * 2)) 195))
    27 27 3 195 2 w.heap.size l.length l.length A c _ 195 (cellsP l) Tryz.underlying27 hsz (heap_alloc_new w _) hlen (by omega)
    (fun h0 => by obtain ⟨ad, e, _, hc⟩ := hr' h0; exact ⟨ad, e, hc⟩) (by rw [hlen, size_madeCells]; omega) (cellsP_one l)
  clear hsz hi hz0 hz1 hz2 hr'
  have q2 : Q w w2 := q1.grown hgr (by simp) (by simp)
  have own2 : Hid (w2.ownsRow w.heap.size 195 2 (.slice (some ⟨w.heap.size, 0, none⟩) l.length l.length) l.length (cellsP l)) :=
    ⟨hlen, .inr ⟨_, _, _, rfl, by omega, hg2, by omega, by unfold maxLen; omega, by simp [hlen, size_madeCells], by rw [← hlen]; simp⟩⟩
  clear hg2 hgr hr hlen q1
  go_enter Tryz.func184, Tryz.ntmps184
  go_wp2_with fail
  go_ret
  exact ⟨w.heap.size, rfl, own2.out, q2⟩

/-- a row of numbers in a block between two others -/
def RowI (w : World) (g e : Nat) (v : Value) (l : List Int) : Prop := w.ownsRow (g + 1) 3 1 v l.length (cellsI l) ∧ ∀ b, v.ownBlock = some b → b < e
theorem RowI.form {w : World} {g e : Nat} {v : Value} {l : List Int} (h : RowI w g e v l) : ∃ A c, v = .slice A l.length c ∧ l.length ≤ c ∧ (0 < l.length → ∃ ad : Addr, A = some ad ∧ g < ad.block ∧ ad.block < e ∧ ∀ j x, (cellsI l)[j]? = some x → w.cell? (ad.add j) = some x) := by
  obtain ⟨h1, h2⟩ := h
  have h3 := h1
  rcases h1.2 with ⟨rfl, e0⟩ | ⟨G, cap, cur, rfl, hb, hg, hc, _⟩
  · rw [e0] at *
    exact ⟨none, 0, rfl, Nat.le_refl _, fun h => absurd h (by simp)⟩
  · exact ⟨_, cap, rfl, hc, fun _ => ⟨_, rfl, hb, h2 G rfl, fun j x hx => by rw [Tr.add_zero_head]; exact ((OwnC.of_row h3).2 j x hx).1⟩⟩
theorem RowI.q {w w' : World} {g e : Nat} {v : Value} {l : List Int} (h : RowI w g e v l) (q : Q w w') : RowI w' g e v l := ⟨Tr.row_kept h.1 q (Nat.le_refl _), h.2⟩
theorem RowI.keep {w w' : World} {g e B : Nat} {v : Value} {l : List Int} (h : RowI w g e v l) (hg : w.grownBy w' (some B)) (hB : B ≤ g ∨ e ≤ B) : RowI w' g e v l :=
  ⟨h.1.kept hg (.inr (fun e1 => by have := (h.1.lt B e1).1; have := h.2 B e1; omega)), h.2⟩
theorem RowI.more {w : World} {g e e' : Nat} {v : Value} {l : List Int} (h : RowI w g e v l) (he : e ≤ e') : RowI w g e' v l := ⟨h.1, fun b hb => Nat.lt_of_lt_of_le (h.2 b hb) he⟩
theorem RowI.nil (w : World) (g e : Nat) : RowI w g e (.slice none 0 0) [] := ⟨World.ownsRow_nil _ _ _ _, fun b hb => by cases hb⟩
theorem RowI.ints {w : World} {g e : Nat} {v : Value} {l : List Int} (h : RowI w g e v l) {B : Nat} (he : e ≤ B) : ∃ a c, l.length ≤ c ∧ v = .slice a l.length c ∧ Ints w B a l := by
  obtain ⟨A, c, rfl, hc, k⟩ := h.form
  refine ⟨A, c, hc, rfl, fun h0 => ?_⟩
  obtain ⟨ad, e1, h1, h2, h3⟩ := k h0
  exact ⟨ad, e1, Nat.lt_of_lt_of_le h2 he, fun i x hx => h3 i _ (by simp [cellsI, hx])⟩
theorem RowI.own {w : World} {g base e n : Nat} {G : Nat} {c : Nat} {l : List Int} (h : w.ownsRow base 3 1 (.slice (some ⟨G, 0, none⟩) n c) n (cellsI l)) (hn : n = l.length) (hg : g < G) (he : w.heap.size ≤ e) : RowI w g e (.slice (some ⟨G, 0, none⟩) n c) l := by
  subst hn
  have hl := (h.lt G rfl).2
  have hGe : G < e := Nat.lt_of_lt_of_le hl he
  refine ⟨⟨h.1, ?_⟩, fun b hb => by rw [← (Option.some.inj hb : G = b)]; exact hGe⟩
  rcases h.2 with ⟨e0, _⟩ | ⟨G', cap, cur, e0, hb, r⟩
  · cases e0
  · have e1 := e0
    injection e0 with e2 _ e3
    injection e2 with e2
    injection e2 with e2
    exact .inr ⟨G', cap, cur, e1, by omega, r⟩

structure Tab (w : World) (g e : Nat) (ks : List (List Int)) : Prop where
  lt : g < e
  le : e ≤ w.heap.size
  row : ∃ cs : List Value, w.ownsRow g 24 1 (.slice (some ⟨g, 0, none⟩) ks.length ks.length) ks.length cs ∧ ∀ (y : Nat) (l : List Int), ks[y]? = some l → ∃ v, cs[y]? = some v ∧ RowI w g e v l
theorem Tab.q {w w' : World} {g e : Nat} {ks : List (List Int)} (h : Tab w g e ks) (q : Q w w') : Tab w' g e ks := by
  obtain ⟨h0, h1, cs, a, c⟩ := h
  refine ⟨h0, Nat.le_trans h1 q.size, cs, Tr.row_kept a q (Nat.le_refl _), fun y l hy => ?_⟩
  obtain ⟨v, d, k⟩ := c y l hy
  exact ⟨v, d, k.q q⟩
theorem Tab.more {w : World} {g e e' : Nat} {ks : List (List Int)} (h : Tab w g e ks) (he : e ≤ e') (hl : e' ≤ w.heap.size) : Tab w g e' ks := by
  obtain ⟨h0, h1, cs, a, c⟩ := h
  refine ⟨Nat.lt_of_lt_of_le h0 he, hl, cs, a, fun y l hy => ?_⟩
  obtain ⟨v, d, k⟩ := c y l hy
  exact ⟨v, d, k.more he⟩
/-- a store into a block that is none of its own -/
theorem Tab.far {w w' : World} {g e B : Nat} {ks : List (List Int)} (h : Tab w g e ks) (hg : w.grownBy w' (some B)) (hB : B < g ∨ e ≤ B) : Tab w' g e ks := by
  obtain ⟨h0, h1, cs, a, c⟩ := h
  refine ⟨h0, Nat.le_trans h1 hg.size, cs, Tr.row_far a hg (by omega), fun y l hy => ?_⟩
  obtain ⟨v, d, k⟩ := c y l hy
  exact ⟨v, d, k.keep hg (by omega)⟩
theorem Tab.own {w : World} {g e : Nat} {ks : List (List Int)} (h : Tab w g e ks) : ∃ cs : List Value, w.ownsRow g 24 1 (.slice (some ⟨g, 0, none⟩) ks.length ks.length) ks.length cs ∧ OwnC w g cs ∧ cs.length = ks.length ∧ ∀ (y : Nat) (l : List Int), ks[y]? = some l → ∃ v, cs[y]? = some v ∧ RowI w g e v l := by
  obtain ⟨h0, h1, cs, a, c⟩ := h
  exact ⟨cs, a, OwnC.of_row a, by have := a.1; omega, c⟩
theorem Tab.set {w : World} {g e : Nat} {ks : List (List Int)} (h : Tab w g e ks) {y : Nat} (hy : y < ks.length) {v : Value} {l : List Int} (hv : RowI w g e v l) : Tab (w.setCell ⟨g, y, none⟩ v) g e (ks.set y l) := by
  obtain ⟨cs, a, b0, b, c⟩ := h.own
  have hk := setCell_grown w g y v
  refine ⟨h.lt, by simpa [World.setCell] using h.le, cs.set y v, by simpa using (a.stored y v).1, fun z m hz => ?_⟩
  by_cases hzy : y = z
  · subst hzy
    rw [List.getElem?_set_self hy] at hz
    injection hz with hz
    subst hz
    exact ⟨v, List.getElem?_set_self (by omega), hv.keep hk (.inl (Nat.le_refl _))⟩
  · rw [List.getElem?_set_ne hzy] at hz
    obtain ⟨u, d, k⟩ := c z m hz
    exact ⟨u, by rw [List.getElem?_set_ne hzy]; exact d, k.keep hk (.inl (Nat.le_refl _))⟩
theorem Tab.keys {w : World} {g e : Nat} {ks : List (List Int)} (h : Tab w g e ks) : Keys w w.heap.size (some ⟨g, 0, none⟩) ks := fun _ => by
  obtain ⟨cs, _, a, b, c⟩ := h.own
  refine ⟨_, rfl, Nat.lt_of_lt_of_le h.lt h.le, fun i k hi => ?_⟩
  obtain ⟨v, d, r⟩ := c i k hi
  obtain ⟨A, m, hm, rfl, hI⟩ := r.ints h.le
  exact ⟨A, m, hm, by rw [Tr.add_zero_head]; exact (a.2 i _ d).1, hI⟩
theorem Tab.cell {w : World} {g e : Nat} {ks : List (List Int)} (h : Tab w g e ks) {y : Nat} (hy : y < ks.length) : ∃ A c, w.cell? ⟨g, y, none⟩ = some (.slice A ks[y].length c) ∧ w.frozen? ⟨g, y, none⟩ = false ∧ RowI w g e (.slice A ks[y].length c) ks[y] := by
  obtain ⟨cs, _, a, b, c⟩ := h.own
  obtain ⟨v, d, k⟩ := c y _ (List.getElem?_eq_getElem hy)
  obtain ⟨A, m, rfl, _⟩ := k.form
  exact ⟨A, m, (a.2 y _ d).1, (a.2 y _ d).2, k⟩
theorem Tab.made (w : World) (n : Nat) (hn : n ≤ 1000000) : Tab (w.alloc (.cells (madeCells #[.slice none 0 0] n) 24)) w.heap.size (w.heap.size + 1) (List.replicate n []) := by
  refine ⟨Nat.lt_succ_self _, by simp, List.replicate n (.slice none 0 0), ?_, fun y l hy => ?_⟩
  · have := World.ownsRow_lit (e := 24) (size := 1) w (madeCells #[.slice none 0 0] n) n (Nat.le_refl _) (by unfold maxLen; omega) (by rw [size_madeCells]; simp)
    rw [toList_madeCells_one] at this
    simpa using this
  · have hi : y < n := by have := (List.getElem?_eq_some_iff.1 hy).1; simpa using this
    have e : l = [] := by rw [List.getElem?_replicate, if_pos hi] at hy; simpa using hy.symm
    subst e
    exact ⟨.slice none 0 0, by rw [List.getElem?_replicate, if_pos hi], RowI.nil _ _ _⟩
theorem rowInfo : (Tryz.prog.info? 24).map (fun i => (i.zero, i.size, i.bytes)) = some (some (.slice none 0 0), 1, 24) := by kernel_rfl
theorem make_rows12 (n : Nat) (hn : n ≤ 1000000) (u : World) : (Instr.makeSlice 23 (.int .i64 (n : Int)) (.int .i64 (n : Int))).run Tryz.prog u = .ok (.slice (some ⟨u.heap.size, 0, none⟩) n n) (u.alloc (.cells (madeCells #[.slice none 0 0] n) 24)) := by
  obtain ⟨i0, hi, hz0, hz1, hz2⟩ := info_parts rowInfo
  have h := run_make (P := Tryz.prog) u 23 24 i0 _ Tryz.underlying23 hi hz0 .i64 .i64 (n : Int) (n : Int) (by omega) (by omega) (by rw [hz2]; omega) (by omega)
  rw [hz1, Nat.mul_one] at h
  exact h

/-- the rows that are copied already -/
def part (ks : List (List Int)) (k : Nat) : List (List Int) := ks.take k ++ List.replicate (ks.length - k) []
theorem part_len (ks : List (List Int)) {k : Nat} (hk : k ≤ ks.length) : (part ks k).length = ks.length := by simp [part]; omega
theorem part_zero (ks : List (List Int)) : part ks 0 = List.replicate ks.length [] := by simp [part]
theorem part_all (ks : List (List Int)) : part ks ks.length = ks := by simp [part]
theorem part_next {ks : List (List Int)} {k : Nat} (hk : k < ks.length) : (part ks k).set k ks[k] = part ks (k + 1) := by
  apply List.ext_getElem?
  intro i
  unfold part
  rw [List.getElem?_set]
  by_cases h1 : k = i
  · subst h1
    simp [List.getElem?_append, Nat.min_eq_left (Nat.le_of_lt hk), Nat.min_eq_left (Nat.succ_le_of_lt hk)]
    omega
  · rw [if_neg h1]
    by_cases h2 : i < k
    · rw [List.getElem?_append_left (by simp; omega), List.getElem?_append_left (by simp; omega)]
      simp [h2, show i < k + 1 by omega]
    · rw [List.getElem?_append_right (by simp; omega), List.getElem?_append_right (by simp; omega)]
      simp only [List.length_take, List.getElem?_replicate]
      rw [Nat.min_eq_left (Nat.le_of_lt hk), Nat.min_eq_left (Nat.succ_le_of_lt hk)]
      by_cases h3 : i < ks.length
      · rw [if_pos (by omega), if_pos (by omega)]
      · rw [if_neg (by omega), if_neg (by omega)]

set_option maxRecDepth 100000 in
set_option maxHeartbeats 2000000 in
theorem copyRows_any (A : Option Addr) (n c : Nat) (ks : List (List Int)) (w : World) (hn : n = ks.length) (hk : Keys w w.heap.size A ks) (hl : ks.length ≤ 1000000) (hs : ∀ k ∈ ks, k.length ≤ 1000000) :
    Calls Tryz.prog 185 #[.slice A n c] w fun e w' => ∃ g, e = .returned (.slice (some ⟨g, 0, none⟩) ks.length ks.length) ∧ w.heap.size ≤ g ∧ Tab w' g w'.heap.size ks ∧ Q w w' := by
  subst hn
  have hmk := make_rows12 ks.length hl
  have q0 := (Q.refl w).alloc (Obj.cells (madeCells #[.slice none 0 0] ks.length) 24)
  have HT0 := Lib.hid (Tab.made w ks.length hl)
  have HK := Lib.hid ((hk.q (Nat.le_refl _) q0).more q0.size)
  have HK0 := Lib.hid hk
  have HSz : Hid ((w.alloc (Obj.cells (madeCells #[.slice none 0 0] ks.length) 24)).heap.size = w.heap.size + 1) := by unfold Hid; simp
  have HS := Lib.hid hs
  clear hk hs
  go_enter Tryz.func185, Tryz.ntmps185
  go_wp2_with fail
  generalize w.alloc (Obj.cells (madeCells #[.slice none 0 0] ks.length) 24) = W0 at *
  clear hmk
  go_loopw [11] (fun i wr => ∃ k : Nat, k ≤ ks.length ∧ i = .int .i64 k ∧ Hid (Tab wr w.heap.size wr.heap.size (part ks k)) ∧ Hid (Q w wr) ∧ Hid (Keys wr wr.heap.size A ks)) (fun i _ => ks.length - (intOf i).toNat)
  case atStart => exact ⟨0, Nat.zero_le _, rfl, by rw [part_zero]; exact Lib.hid (HT0.out.more (by rw [HSz.out]; exact Nat.le_refl _) (Nat.le_refl _)), Lib.hid q0, HK⟩
  case round =>
    obtain ⟨k, hk, rfl, HT, HQ, HKr⟩ := hrel
    by_cases hlt : k < ks.length
    · obtain ⟨ad, rfl, hb, a, cc, hcc, p0, hi⟩ := HKr.out.at_ hlt
      have CC := Lib.hid (copyI12 a ks[k].length cc ks[k] wr rfl (ints_rds hi) (HS.out _ (List.getElem_mem hlt)))
      have j0 : (0 : Int) ≤ (k : Int) := Int.natCast_nonneg _
      have j1 : (k : Int) < (ks.length : Int) := by omega
      clear hi
      have hw0 : w.heap.size < wr.heap.size := HT.out.lt
      have HTl := Lib.hid (show (part ks k).length = ks.length from part_len ks hk)
      go_wp2_with (go_at_call 183; refine CC.out.mono ?_; rintro e w1 ⟨g1, rfl, own1, q1⟩; have Own1 := Lib.hid own1; clear own1; have HT1 := Lib.hid ((HT.out.q q1).more q1.size (Nat.le_refl _)); obtain ⟨A1, c1, x0, f0, -⟩ := HT1.out.cell (y := k) (by rw [HTl.out]; exact hlt))
      have hg1 := (Own1.out.lt g1 rfl).1
      have HT2 := Lib.hid (HT1.out.set (y := k) (by rw [HTl.out]; exact hlt) (RowI.own Own1.out rfl (by omega) (Nat.le_refl _)))
      have HQ2 := Lib.hid (grown_q (setCell_grown w1 w.heap.size k (.slice (some ⟨g1, 0, none⟩) ks[k].length ks[k].length)) (HQ.out.trans q1) (Nat.le_refl _))
      have HK2 : Hid (Keys (w1.setCell ⟨w.heap.size, k, none⟩ (.slice (some ⟨g1, 0, none⟩) ks[k].length ks[k].length)) (w1.setCell ⟨w.heap.size, k, none⟩ (.slice (some ⟨g1, 0, none⟩) ks[k].length ks[k].length)).heap.size (some ad) ks) := Lib.hid ((HK0.out.q (Nat.le_refl _) HQ2.out).more HQ2.out.size)
      rw [part_next hlt] at HT2
      go_roundw
      case rel => exact ⟨k + 1, by omega, by go_num, by simpa [World.setCell] using HT2, HQ2, HK2⟩
      case measure => simp [intOf]; omega
    · obtain rfl : k = ks.length := by omega
      rw [part_all] at HT
      go_wp2_with fail
      go_ret
      exact ⟨w.heap.size, rfl, Nat.le_refl _, HT.out, HQ.out⟩
end Go.Proofs.YtnifmfdlocgefaaGreat.Ig

namespace Go.Proofs.YtnifmfdlocgefaaGreat.Ig
open Go.RowKit Kit Tr Uf
open Go.Proofs.YtnifmfdlocgefaaGreat.Hs (Keys Ints BoxT)
/-- a graph of the call's own: a block for each row, and for each row of rows -/
structure GOut (w w' : World) (R : List Int) (c : Cells) (P T : List (List Int)) (g0 g1 g2 g3 gp ep gs es : Nat) : Prop where
  r : OwnC w' g0 (cellsI R)
  v : OwnC w' g1 (cellsI c.V)
  n : OwnC w' g2 (cellsP c.N)
  m : OwnC w' g3 (cellsI c.M)
  p : Tab w' gp ep P
  t : Tab w' gs es T
  o0 : w.heap.size ≤ g0
  o1 : g0 < g1
  o2 : g1 < g2
  o3 : g2 < g3
  o4 : g3 < gp
  o5 : ep ≤ gs
  q : Q w w'
theorem GOut.lt {w w' : World} {R : List Int} {c : Cells} {P T : List (List Int)} {g0 g1 g2 g3 gp ep gs es : Nat} (h : GOut w w' R c P T g0 g1 g2 g3 gp ep gs es) : es ≤ w'.heap.size ∧ gp < ep ∧ gs < es := ⟨h.t.le, h.p.lt, h.t.lt⟩
/-- what lies in other blocks counts for nothing -/
theorem GOut.far {w0 w w' w'' : World} {R : List Int} {c : Cells} {P T : List (List Int)} {g0 g1 g2 g3 gp ep gs es B : Nat} (h : GOut w w' R c P T g0 g1 g2 g3 gp ep gs es) (hq : Q w0 w) (hg : w'.grownBy w'' (some B)) (hB : B < w.heap.size) (hB0 : w0.heap.size ≤ B) : GOut w0 w'' R c P T g0 g1 g2 g3 gp ep gs es := by
  obtain ⟨r, v, n, m, p, t, o0, o1, o2, o3, o4, o5, q⟩ := h
  have := p.lt
  refine ⟨r.grown hg ?_, v.grown hg ?_, n.grown hg ?_, m.grown hg ?_, p.far hg (.inl (by omega)), t.far hg (.inl (by omega)), Nat.le_trans hq.size o0, o1, o2, o3, o4, o5, grown_q hg (hq.trans q) hB0⟩
  all_goals (intro e; injection e with e; omega)
theorem GOut.next {w w' w'' : World} {R : List Int} {c : Cells} {P T : List (List Int)} {g0 g1 g2 g3 gp ep gs es : Nat} (h : GOut w w' R c P T g0 g1 g2 g3 gp ep gs es) (hq : Q w' w'') : GOut w w'' R c P T g0 g1 g2 g3 gp ep gs es := by
  obtain ⟨r, v, n, m, p, t, o0, o1, o2, o3, o4, o5, q⟩ := h
  exact ⟨r.q hq, v.q hq, n.q hq, m.q hq, p.q hq, t.q hq, o0, o1, o2, o3, o4, o5, q.trans hq⟩
/-- the answer, as a value -/
def gVal (R : List Int) (c : Cells) (P T : List (List Int)) (g0 g1 g2 g3 gp gs : Nat) : Value := .agg #[.slice (some ⟨g0, 0, none⟩) R.length R.length, .slice (some ⟨g1, 0, none⟩) c.V.length c.V.length, .slice (some ⟨g2, 0, none⟩) c.N.length c.N.length, .slice (some ⟨g3, 0, none⟩) c.M.length c.M.length, .slice (some ⟨gp, 0, none⟩) P.length P.length, .slice (some ⟨gs, 0, none⟩) T.length T.length]
def GPost (R : List Int) (c : Cells) (P T : List (List Int)) (w : World) (e : Ending) (w' : World) : Prop :=
  ∃ g0 g1 g2 g3 gp ep gs es, e = .returned (gVal R c P T g0 g1 g2 g3 gp gs) ∧ GOut w w' R c P T g0 g1 g2 g3 gp ep gs es

theorem gout_close {w W0 w1 w2 w3 w4 w5 w6 w7 : World} {R : List Int} {c : Cells} {P T : List (List Int)} {g0 g1 g2 g3 gp gs : Nat} {t1 t2 t3 t4 : TypeId} {n0 n1 n2 n3 m0 m1 m2 m3 : Nat} (q0 : Q w W0) (hz : W0.heap.size = w.heap.size + 2)
    (q1 : Q W0.drew w1) (q2 : Q w1 w2) (q3 : Q w2 w3) (q4 : Q w3 w4) (q5 : Q w4 w5) (q6 : Q w5 w6)
    (o0 : w1.ownsRow W0.drew.heap.size t1 1 (.slice (some ⟨g0, 0, none⟩) n0 m0) n0 (cellsI R)) (o1 : w2.ownsRow w1.heap.size t2 1 (.slice (some ⟨g1, 0, none⟩) n1 m1) n1 (cellsI c.V)) (o2 : w3.ownsRow w2.heap.size t3 2 (.slice (some ⟨g2, 0, none⟩) n2 m2) n2 (cellsP c.N)) (o3 : w4.ownsRow w3.heap.size t4 1 (.slice (some ⟨g3, 0, none⟩) n3 m3) n3 (cellsI c.M))
    (hp : w4.heap.size ≤ gp) (tp : Tab w5 gp w5.heap.size P) (hs : w5.heap.size ≤ gs) (ts : Tab w6 gs w6.heap.size T) (hg : w6.grownBy w7 (some (w.heap.size + 1))) : GOut w w7 R c P T g0 g1 g2 g3 gp w5.heap.size gs w6.heap.size := by
  have a0 : W0.heap.size ≤ g0 ∧ g0 < w1.heap.size := o0.lt g0 rfl
  have a1 := o1.lt g1 rfl
  have a2 := o2.lt g2 rfl
  have a3 := o3.lt g3 rfl
  have h : GOut W0.drew w6 R c P T g0 g1 g2 g3 gp w5.heap.size gs w6.heap.size :=
    ⟨(OwnC.of_row o0).q (q2.trans (q3.trans (q4.trans (q5.trans q6)))), (OwnC.of_row o1).q (q3.trans (q4.trans (q5.trans q6))), (OwnC.of_row o2).q (q4.trans (q5.trans q6)), (OwnC.of_row o3).q (q5.trans q6), tp.q q6, ts, a0.1, by omega, by omega, by omega, by omega, hs, q1.trans (q2.trans (q3.trans (q4.trans (q5.trans q6))))⟩
  have hz' : W0.drew.heap.size = w.heap.size + 2 := hz
  exact h.far q0.drew hg (by omega) (by omega)

theorem set6_grown (W : World) (B : Nat) (a b c d e f : Value) : W.grownBy ((((((W.setCell ⟨B, 0, none⟩ a).setCell ⟨B, 1, none⟩ b).setCell ⟨B, 2, none⟩ c).setCell ⟨B, 3, none⟩ d).setCell ⟨B, 4, none⟩ e).setCell ⟨B, 5, none⟩ f) (some B) :=
  grown_trans (grown_trans (grown_trans (grown_trans (grown_trans (setCell_grown _ _ _ _) (setCell_grown _ _ _ _)) (setCell_grown _ _ _ _)) (setCell_grown _ _ _ _)) (setCell_grown _ _ _ _)) (setCell_grown _ _ _ _)
/-- a box of six cells that may be written into -/
structure BoxW (W : World) (B : Nat) (a b c d e f : Value) : Prop where
  c : Box6 W B a b c d e f
  f0 : W.frozen? ⟨B, 0, none⟩ = false
  f1 : W.frozen? ⟨B, 1, none⟩ = false
  f2 : W.frozen? ⟨B, 2, none⟩ = false
  f3 : W.frozen? ⟨B, 3, none⟩ = false
  f4 : W.frozen? ⟨B, 4, none⟩ = false
  f5 : W.frozen? ⟨B, 5, none⟩ = false
theorem BoxW.own {W : World} {B : Nat} {a b c d e f : Value} : BoxW W B a b c d e f ↔ OwnC W B [a, b, c, d, e, f] := by
  refine ⟨fun h => ⟨h.c.lt, fun j v hv => ?_⟩, fun h => ?_⟩
  · match j, hv with
    | 0, hv => simp at hv; subst hv; exact ⟨h.c.c0, h.f0⟩
    | 1, hv => simp at hv; subst hv; exact ⟨h.c.c1, h.f1⟩
    | 2, hv => simp at hv; subst hv; exact ⟨h.c.c2, h.f2⟩
    | 3, hv => simp at hv; subst hv; exact ⟨h.c.c3, h.f3⟩
    | 4, hv => simp at hv; subst hv; exact ⟨h.c.c4, h.f4⟩
    | 5, hv => simp at hv; subst hv; exact ⟨h.c.c5, h.f5⟩
    | j + 6, hv => simp at hv
  · have h0 := h.2 0 a rfl
    have h1 := h.2 1 b rfl
    have h2 := h.2 2 c rfl
    have h3 := h.2 3 d rfl
    have h4 := h.2 4 e rfl
    have h5 := h.2 5 f rfl
    exact ⟨⟨h0.1, h1.1, h2.1, h3.1, h4.1, h5.1, h.1⟩, h0.2, h1.2, h2.2, h3.2, h4.2, h5.2⟩
theorem BoxW.new (w : World) (a b c d e f : Value) (t : TypeId) : BoxW (w.alloc (.cells #[a, b, c, d, e, f] t)) w.heap.size a b c d e f :=
  ⟨Box6.new w a b c d e f t, by simp, by simp, by simp, by simp, by simp, by simp⟩
theorem BoxW.q {W W' : World} {B : Nat} {a b c d e f : Value} (h : BoxW W B a b c d e f) (q : Q W W') : BoxW W' B a b c d e f := BoxW.own.2 ((BoxW.own.1 h).q q)
theorem BoxW.grown {W W' : World} {B g : Nat} {a b c d e f : Value} (h : BoxW W B a b c d e f) (hg : W.grownBy W' (some g)) (hne : g ≠ B) : BoxW W' B a b c d e f := BoxW.own.2 ((BoxW.own.1 h).grown hg (by intro e; injection e with e; exact hne e))
theorem BoxW.set {W : World} {B : Nat} {a b c d e f : Value} (h : BoxW W B a b c d e f) (x y z u v t : Value) : BoxW ((((((W.setCell ⟨B, 0, none⟩ x).setCell ⟨B, 1, none⟩ y).setCell ⟨B, 2, none⟩ z).setCell ⟨B, 3, none⟩ u).setCell ⟨B, 4, none⟩ v).setCell ⟨B, 5, none⟩ t) B x y z u v t :=
  BoxW.own.2 ((((((((BoxW.own.1 h).set (s := 0) (by simp) x).set (s := 1) (by simp) y).set (s := 2) (by simp) z).set (s := 3) (by simp) u).set (s := 4) (by simp) v).set (s := 5) (by simp) t))

set_option maxRecDepth 100000 in
set_option maxHeartbeats 4000000 in
theorem copyOf12 (R : List Int) (c : Cells) (P T : List (List Int)) (F A D E Pa Ta : Option Addr) (nr cr n1 k1 n2 k2 n3 k3 np cp nt ct : Nat) (w : World) (hr : nr = R.length) (h1 : n1 = c.V.length) (h2 : n2 = c.N.length) (h3 : n3 = c.M.length) (hp : np = P.length) (ht : nt = T.length)
    (hR : Tr.Rds w w.heap.size F (cellsI R)) (h : Rd w c A k1 D k2 E k3) (hP : Keys w w.heap.size Pa P) (hT : Keys w w.heap.size Ta T)
    (lR : R.length ≤ 1000000) (hf : Few c 1000000) (lP : P.length ≤ 1000000) (lT : T.length ≤ 1000000) (sP : ∀ k ∈ P, k.length ≤ 1000000) (sT : ∀ k ∈ T, k.length ≤ 1000000) :
    Calls Tryz.prog 125 #[.agg #[.slice F nr cr, .slice A n1 k1, .slice D n2 k2, .slice E n3 k3, .slice Pa np cp, .slice Ta nt ct]] w (GPost R c P T w) := by
  subst hr h1 h2 h3 hp ht
  obtain ⟨f1, f2, f3⟩ := hf
  have q0 := ((Q.refl w).alloc (Obj.cells #[Value.slice F R.length cr, Value.slice A c.V.length k1, Value.slice D c.N.length k2, Value.slice E c.M.length k3, Value.slice Pa P.length cp, Value.slice Ta T.length ct] 31)).alloc (Obj.cells #[Value.slice none 0 0, Value.slice none 0 0, Value.slice none 0 0, Value.slice none 0 0, Value.slice none 0 0, Value.slice none 0 0] 31)
  have HB := Lib.hid ((Box6.new w (Value.slice F R.length cr) (Value.slice A c.V.length k1) (Value.slice D c.N.length k2) (Value.slice E c.M.length k3) (Value.slice Pa P.length cp) (Value.slice Ta T.length ct) 31).q ((Q.refl _).alloc (Obj.cells #[Value.slice none 0 0, Value.slice none 0 0, Value.slice none 0 0, Value.slice none 0 0, Value.slice none 0 0, Value.slice none 0 0] 31)))
  have X := BoxW.new (w.alloc (Obj.cells #[Value.slice F R.length cr, Value.slice A c.V.length k1, Value.slice D c.N.length k2, Value.slice E c.M.length k3, Value.slice Pa P.length cp, Value.slice Ta T.length ct] 31)) (Value.slice none 0 0) (Value.slice none 0 0) (Value.slice none 0 0) (Value.slice none 0 0) (Value.slice none 0 0) (Value.slice none 0 0) 31
  rw [World.size_alloc] at X
  have HX := Lib.hid X
  have hz0 : ((w.alloc (Obj.cells #[Value.slice F R.length cr, Value.slice A c.V.length k1, Value.slice D c.N.length k2, Value.slice E c.M.length k3, Value.slice Pa P.length cp, Value.slice Ta T.length ct] 31)).alloc (Obj.cells #[Value.slice none 0 0, Value.slice none 0 0, Value.slice none 0 0, Value.slice none 0 0, Value.slice none 0 0, Value.slice none 0 0] 31)).heap.size = w.heap.size + 2 := by simp
  have HZ := Lib.hid hz0
  have HR := Lib.hid (hR.q q0)
  have HC := Lib.hid (h.q q0)
  have HP := Lib.hid ((hP.q (Nat.le_refl _) q0).more q0.size)
  have HT := Lib.hid ((hT.q (Nat.le_refl _) q0).more q0.size)
  have HQ0 := Lib.hid q0
  clear h X hz0 hR hP hT q0
  go_enter Tryz.func125, Tryz.ntmps125
  go_upto_region 1 with fail
  generalize (w.alloc (Obj.cells #[Value.slice F R.length cr, Value.slice A c.V.length k1, Value.slice D c.N.length k2, Value.slice E c.M.length k3, Value.slice Pa P.length cp, Value.slice Ta T.length ct] 31)).alloc (Obj.cells #[Value.slice none 0 0, Value.slice none 0 0, Value.slice none 0 0, Value.slice none 0 0, Value.slice none 0 0, Value.slice none 0 0] 31) = W0 at *
  have C1 : Hid (∀ W, Q W0 W → Calls Tryz.prog 183 #[.slice F R.length cr] W (CopyR 3 1 R.length (cellsI R) W)) := fun W q => copyI12 F _ cr R W rfl (HR.out.q q) lR
  have C2 : Hid (∀ W, Q W0 W → Calls Tryz.prog 183 #[.slice A c.V.length k1] W (CopyR 3 1 c.V.length (cellsI c.V) W)) := fun W q => copyI12 A _ k1 c.V W rfl (HC.out.v.q q) f1
  have C3 : Hid (∀ W, Q W0 W → Calls Tryz.prog 184 #[.slice D c.N.length k2] W (CopyR 195 2 c.N.length (cellsP c.N) W)) := fun W q => copyP12 D _ k2 c.N W rfl (HC.out.n.q q) f2
  have C4 : Hid (∀ W, Q W0 W → Calls Tryz.prog 183 #[.slice E c.M.length k3] W (CopyR 3 1 c.M.length (cellsI c.M) W)) := fun W q => copyI12 E _ k3 c.M W rfl (HC.out.m.q q) f3
  have C5 : Hid (∀ W, Q W0 W → Calls Tryz.prog 185 #[.slice Pa P.length cp] W fun e w' => ∃ g, e = .returned (.slice (some ⟨g, 0, none⟩) P.length P.length) ∧ W.heap.size ≤ g ∧ Tab w' g w'.heap.size P ∧ Q W w') := fun W q => copyRows_any Pa _ cp P W rfl ((HP.out.q (Nat.le_refl _) q).more q.size) lP sP
  have C6 : Hid (∀ W, Q W0 W → Calls Tryz.prog 185 #[.slice Ta T.length ct] W fun e w' => ∃ g, e = .returned (.slice (some ⟨g, 0, none⟩) T.length T.length) ∧ W.heap.size ≤ g ∧ Tab w' g w'.heap.size T ∧ Q W w') := fun W q => copyRows_any Ta _ ct T W rfl ((HT.out.q (Nat.le_refl _) q).more q.size) lT sT
  have b0 := HB.out.c0
  have b1 := HB.out.c1
  have b2 := HB.out.c2
  have b3 := HB.out.c3
  have b4 := HB.out.c4
  have b5 := HB.out.c5
  have l0 := HB.out.lt
  have AL : Hid (∀ W, Q W0 W → W.cell? ⟨w.heap.size, 0, none⟩ = some (.slice F R.length cr) ∧ W.cell? ⟨w.heap.size, 1, none⟩ = some (.slice A c.V.length k1) ∧ W.cell? ⟨w.heap.size, 2, none⟩ = some (.slice D c.N.length k2) ∧ W.cell? ⟨w.heap.size, 3, none⟩ = some (.slice E c.M.length k3) ∧ W.cell? ⟨w.heap.size, 4, none⟩ = some (.slice Pa P.length cp) ∧ W.cell? ⟨w.heap.size, 5, none⟩ = some (.slice Ta T.length ct)) := fun W q => ⟨(HB.out.q q).c0, (HB.out.q q).c1, (HB.out.q q).c2, (HB.out.q q).c3, (HB.out.q q).c4, (HB.out.q q).c5⟩
  clear lR f1 f2 f3 lP lT sP sT
  go_region_held3 (fun w' => w'.cell? ⟨w.heap.size, 0, none⟩ = some (.slice F R.length cr) ∧ w'.cell? ⟨w.heap.size, 1, none⟩ = some (.slice A c.V.length k1) ∧ w'.cell? ⟨w.heap.size, 2, none⟩ = some (.slice D c.N.length k2) ∧ w'.cell? ⟨w.heap.size, 3, none⟩ = some (.slice E c.M.length k3) ∧ w'.cell? ⟨w.heap.size, 4, none⟩ = some (.slice Pa P.length cp) ∧ w'.cell? ⟨w.heap.size, 5, none⟩ = some (.slice Ta T.length ct))
    (first
      | go_keep
      | exact AL.out _ p6
      | exact AL.out _ p5
      | exact AL.out _ p4
      | exact AL.out _ p3
      | exact AL.out _ p2
      | exact AL.out _ p1)
    (first
      | (go_at_call 183; (with_reducible refine (C1.out _ (Q.refl W0).drew).mono ?_); rintro e w1 ⟨g0, rfl, own0, q1⟩; have Own0 := Lib.hid own0; clear own0; have p1 : Q W0 w1 := (Q.refl W0).drew.trans q1)
      | (go_at_call 183; (with_reducible refine (C2.out _ p1).mono ?_); rintro e w2 ⟨g1, rfl, own1, q2⟩; have Own1 := Lib.hid own1; clear own1; have p2 : Q W0 w2 := p1.trans q2)
      | (go_at_call 184; (with_reducible refine (C3.out _ p2).mono ?_); rintro e w3 ⟨g2, rfl, own2, q3⟩; have Own2 := Lib.hid own2; clear own2; have p3 : Q W0 w3 := p2.trans q3)
      | (go_at_call 183; (with_reducible refine (C4.out _ p3).mono ?_); rintro e w4 ⟨g3, rfl, own3, q4⟩; have Own3 := Lib.hid own3; clear own3; have p4 : Q W0 w4 := p3.trans q4)
      | (go_at_call 185; (with_reducible refine (C5.out _ p4).mono ?_); rintro e w5 ⟨gp, rfl, hgp, tab5, q5⟩; have Tab5 := Lib.hid tab5; clear tab5; have Hgp := Lib.hid hgp; clear hgp; have p5 : Q W0 w5 := p4.trans q5)
      | (go_at_call 185; (with_reducible refine (C6.out _ p5).mono ?_); rintro e w6 ⟨gs, rfl, hgs, tab6, q6⟩; have Tab6 := Lib.hid tab6; clear tab6; have Hgs := Lib.hid hgs; clear hgs; have p6 : Q W0 w6 := p5.trans q6; have bx := HX.out.q p6; have y0 := bx.c.c0; have y1 := bx.c.c1; have y2 := bx.c.c2; have y3 := bx.c.c3; have y4 := bx.c.c4; have y5 := bx.c.c5; have z0 := bx.f0; have z1 := bx.f1; have z2 := bx.f2; have z3 := bx.f3; have z4 := bx.f4; have z5 := bx.f5))
  clear y0 y1 y2 y3 y4 y5 z0 z1 z2 z3 z4 z5 b0 b1 b2 b3 b4 b5
  have bz := bx.set (.slice (some ⟨g0, 0, none⟩) R.length R.length) (.slice (some ⟨g1, 0, none⟩) c.V.length c.V.length) (.slice (some ⟨g2, 0, none⟩) c.N.length c.N.length) (.slice (some ⟨g3, 0, none⟩) c.M.length c.M.length) (.slice (some ⟨gp, 0, none⟩) P.length P.length) (.slice (some ⟨gs, 0, none⟩) T.length T.length)
  have y0 := bz.c.c0
  have y1 := bz.c.c1
  have y2 := bz.c.c2
  have y3 := bz.c.c3
  have y4 := bz.c.c4
  have y5 := bz.c.c5
  have hgr := Lib.hid (set6_grown w6 (w.heap.size + 1) (.slice (some ⟨g0, 0, none⟩) R.length R.length) (.slice (some ⟨g1, 0, none⟩) c.V.length c.V.length) (.slice (some ⟨g2, 0, none⟩) c.N.length c.N.length) (.slice (some ⟨g3, 0, none⟩) c.M.length c.M.length) (.slice (some ⟨gp, 0, none⟩) P.length P.length) (.slice (some ⟨gs, 0, none⟩) T.length T.length))
  have hG := Lib.hid (fun (hz : W0.heap.size = w.heap.size + 2) => gout_close HQ0.out hz q1 q2 q3 q4 q5 q6 Own0.out Own1.out Own2.out Own3.out Hgp.out Tab5.out Hgs.out Tab6.out hgr.out)
  have hz := HZ.out
  clear bx bz
  go_wp2_with fail
  refine bodyPost_ret (v := gVal R c P T g0 g1 g2 g3 gp gs) (by simp [gVal, results, Tryz.f125, go_sem, y0, y1, y2, y3, y4, y5]) rfl ⟨g0, g1, g2, g3, gp, w5.heap.size, gs, w6.heap.size, rfl, hG.out hz⟩
end Go.Proofs.YtnifmfdlocgefaaGreat.Ig

namespace Go.Proofs.YtnifmfdlocgefaaGreat.Tr
open Go.RowKit Kit

structure OutR (w w' : World) (c : Cells) (g1 k1 g2 k2 g3 k3 : Nat) : Prop where
  o : Out w w' c g1 k1 g2 k2 g3 k3
  rv : w'.ownsRow w.heap.size 3 1 (.slice (some ⟨g1, 0, none⟩) c.V.length k1) c.V.length (cellsI c.V)
  rn : w'.ownsRow w.heap.size 195 2 (.slice (some ⟨g2, 0, none⟩) c.N.length k2) c.N.length (cellsP c.N)
theorem OutR.far {w w' w'' : World} {c : Cells} {g1 k1 g2 k2 g3 k3 B : Nat} (h : OutR w w' c g1 k1 g2 k2 g3 k3) (hg : w'.grownBy w'' (some B)) (hB : w.heap.size ≤ B) (h1 : B ≠ g1) (h2 : B ≠ g2) (h3 : B ≠ g3) : OutR w w'' c g1 k1 g2 k2 g3 k3 :=
  ⟨h.o.far hg hB h1 h2 h3, row_far h.rv hg h1, row_far h.rn hg h2⟩
theorem OutR.more {w w' w'' : World} {c : Cells} {g1 k1 g2 k2 g3 k3 : Nat} (h : OutR w w' c g1 k1 g2 k2 g3 k3) (q : Q w' w'') : OutR w w'' c g1 k1 g2 k2 g3 k3 :=
  ⟨h.o.more q, row_kept h.rv q (Nat.le_refl _), row_kept h.rn q (Nat.le_refl _)⟩
theorem OutR.from {w0 w w' : World} {c : Cells} {g1 k1 g2 k2 g3 k3 : Nat} (h : OutR w w' c g1 k1 g2 k2 g3 k3) (q : Q w0 w) : OutR w0 w' c g1 k1 g2 k2 g3 k3 :=
  ⟨h.o.from q, row_kept h.rv (Q.refl _) q.size, row_kept h.rn (Q.refl _) q.size⟩
def OutPostR (c : Cells) (w : World) (e : Ending) (w' : World) : Prop :=
  ∃ g1 k1 g2 k2 g3 k3, e = .returned (.agg #[.slice (some ⟨g1, 0, none⟩) c.V.length k1, .slice (some ⟨g2, 0, none⟩) c.N.length k2, .slice (some ⟨g3, 0, none⟩) c.M.length k3]) ∧ OutR w w' c g1 k1 g2 k2 g3 k3

set_option maxRecDepth 100000 in
set_option maxHeartbeats 2000000 in
theorem growR_any (c : Cells) (x : Int) (A D E : Option Addr) (n1 k1 n2 k2 n3 k3 : Nat) (w : World) (h1 : n1 = c.V.length) (h2 : n2 = c.N.length) (h3 : n3 = c.M.length) (h : Rd w c A k1 D k2 E k3) (hf : Few c 1000000) :
    Calls Tryz.prog 262 #[.agg #[.slice A n1 k1, .slice D n2 k2, .slice E n3 k3], .int .i64 x] w (OutPostR (growC c x) w) := by
  subst h1 h2 h3
  obtain ⟨W0, hW0, q0, hz0, hB, hX⟩ := boxes w (Value.slice A c.V.length k1) (Value.slice D c.N.length k2) (Value.slice E c.M.length k3) 29
  have HB := Lib.hid hB
  have HX := Lib.hid hX
  have HR := Lib.hid (h.q q0)
  have HZ := Lib.hid hz0
  have HW := Lib.hid hW0
  have Hf := Lib.hid hf
  obtain ⟨fv, fn, fm⟩ := hf
  obtain ⟨j0, hi, hz0', hz1, hz2⟩ := info_parts intInfo
  have Hi := Lib.hid hi
  have Hz1 := Lib.hid hz1
  clear hi hz0' hz1 hz2
  obtain ⟨j1, hi, hz0', hz1, hz2⟩ := info_parts noteInfo
  have Hi2 := Lib.hid hi
  have Hz2 := Lib.hid hz1
  clear hi hz0' hz1 hz2
  clear h hB hX hz0 hW0
  go_enter Tryz.func262, Tryz.ntmps262
  go_upto_region 1 with fail
  rw [← HW.out]
  have c0 := HB.out.c0
  have c1 := HB.out.c1
  have c2 := HB.out.c2
  clear HW
  go_upto_region 2 with (go_at_call 264; refine (copyOf_any c _ _ _ _ _ _ _ _ _ _ rfl rfl rfl HR.out Hf.out).mono ?_; rintro e w1 ⟨g1, g2, g3, rfl, hC⟩; have HC := Lib.hid hC; clear hC)
  clear c0 c1 c2
  obtain ⟨hS, hO⟩ := st_start q0 HZ.out HB.out HX.out HC.out (.slice (some ⟨g1, 0, none⟩) c.V.length (c.V.length + 1)) (.slice (some ⟨g2, 0, none⟩) c.N.length (c.N.length + 1)) (.slice (some ⟨g3, 0, none⟩) c.M.length (c.M.length + 1)) 29
  have HRr := Lib.hid (((HR.out.q HC.out.q).q ((Q.refl w1).alloc (.cells #[(.slice (some ⟨g1, 0, none⟩) c.V.length (c.V.length + 1)), (.slice (some ⟨g2, 0, none⟩) c.N.length (c.N.length + 1)), (.slice (some ⟨g3, 0, none⟩) c.M.length (c.M.length + 1))] 29))))
  generalize w1.alloc (.cells #[(.slice (some ⟨g1, 0, none⟩) c.V.length (c.V.length + 1)), (.slice (some ⟨g2, 0, none⟩) c.N.length (c.N.length + 1)), (.slice (some ⟨g3, 0, none⟩) c.M.length (c.M.length + 1))] 29) = W1 at *
  generalize w1.heap.size = B at *
  have HO := Lib.hid hO
  have HS := Lib.hid hS
  have i0 := hS.ib.c0
  have i1 := hS.ib.c1
  have i2 := hS.ib.c2
  clear hO hS
  have t0 := HS.out.tb.c0
  have tf0 := HS.out.tb.f0
  have t1 := HS.out.tb.c1
  have tf1 := HS.out.tb.f1
  have t2 := HS.out.tb.c2
  have tf2 := HS.out.tb.f2
  have qa := (Q.refl W1).alloc (.cells #[.int .i64 x] 3)
  have HSa := Lib.hid (HS.out.more qa)
  have HOa := Lib.hid (HO.out.more qa)
  have Hs := Lib.hid (src1 W1 (.int .i64 x) 3)
  clear qa
  have l1 := HO.out.lo
  have l2 := HO.out.d12
  have l3 := HO.out.d23
  have l4 := HO.out.d3B
  go_upto_region 3 with (at_builtin; refine wpList_append_fits _ rfl (.tmp 9) (.tmp 11) _ rfl (w.heap.size + 2) 3 j0 1 Tryz.underlying24 Hi.out Hz1.out g1 c.V.length (c.V.length + 1) (cellsI c.V) rfl HOa.out.v ⟨W1.heap.size, 0, none⟩ 1 1 [.int .i64 x] rfl rfl Hs.out (by simp [Value.oneCell']) (by omega) ?_; intro w2 own2 hgr; have hS2 := HSa.out.grown hgr l1 (by omega); have HG2 := Lib.hid hgr; have Own2 := Lib.hid own2; have HS2 := Lib.hid hS2; have y0 := hS2.tb.c0; have y1 := hS2.tb.c1; have y2 := hS2.tb.c2; have yf := hS2.tb.f0; clear hS2 own2 hgr)
  clear y0 y1 y2 yf t0 t1 t2 tf0 tf1 tf2
  have HS3 := Lib.hid (HS2.out.set0 (.slice (some ⟨g1, 0, none⟩) (c.V.length + 1) (c.V.length + 1)))
  have HN3 := Lib.hid (row_far (row_far HOa.out.n HG2.out (by omega)) (setCell_grown w2 B 0 (.slice (some ⟨g1, 0, none⟩) (c.V.length + 1) (c.V.length + 1))) (by omega))
  have HM3 := Lib.hid (row_far (row_far HOa.out.m HG2.out (by omega)) (setCell_grown w2 B 0 (.slice (some ⟨g1, 0, none⟩) (c.V.length + 1) (c.V.length + 1))) (by omega))
  have HV3 := Lib.hid (row_far Own2.out (setCell_grown w2 B 0 (.slice (some ⟨g1, 0, none⟩) (c.V.length + 1) (c.V.length + 1))) (by omega))
  clear HS2 Own2 HG2 HSa HOa
  generalize w2.setCell ⟨B, 0, none⟩ (.slice (some ⟨g1, 0, none⟩) (c.V.length + 1) (c.V.length + 1)) = W3 at *
  have t0 := HS3.out.tb.c0
  have tf0 := HS3.out.tb.f0
  have t1 := HS3.out.tb.c1
  have tf1 := HS3.out.tb.f1
  have t2 := HS3.out.tb.c2
  have tf2 := HS3.out.tb.f2
  have qa := (Q.refl W3).alloc (.cells #[.int .i64 (-1), .int .i64 0] 195)
  have HSb := Lib.hid (HS3.out.more qa)
  have HNb := Lib.hid (row_kept HN3.out qa (Nat.le_refl _))
  have HMb := Lib.hid (row_kept HM3.out qa (Nat.le_refl _))
  have HVb := Lib.hid (row_kept HV3.out qa (Nat.le_refl _))
  have Hs2 := Lib.hid (src2 W3 (.int .i64 (-1)) (.int .i64 0) 195)
  clear qa
  go_upto_region 4 with (at_builtin; refine wpList_append_fits _ rfl (.tmp 15) (.tmp 17) _ rfl (w.heap.size + 2) 195 j1 2 Tryz.underlying27 Hi2.out Hz2.out g2 c.N.length (c.N.length + 1) (cellsP c.N) rfl HNb.out ⟨W3.heap.size, 0, none⟩ 1 1 [.int .i64 (-1), .int .i64 0] rfl rfl Hs2.out (by simp [Value.oneCell']) (by omega) ?_; intro w4 own4 hgr; have hS4 := HSb.out.grown hgr (by omega) (by omega); have HG4 := Lib.hid hgr; have Own4 := Lib.hid own4; have HS4 := Lib.hid hS4; have y0 := hS4.tb.c0; have y1 := hS4.tb.c1; have y2 := hS4.tb.c2; have yf := hS4.tb.f1; clear hS4 own4 hgr)
  clear y0 y1 y2 yf t0 t1 t2 tf0 tf1 tf2
  have HS5 := Lib.hid (HS4.out.set1 (.slice (some ⟨g2, 0, none⟩) (c.N.length + 1) (c.N.length + 1)))
  have HV5 := Lib.hid (row_far (row_far HVb.out HG4.out (by omega)) (setCell_grown w4 B 1 (.slice (some ⟨g2, 0, none⟩) (c.N.length + 1) (c.N.length + 1))) (by omega))
  have HM5 := Lib.hid (row_far (row_far HMb.out HG4.out (by omega)) (setCell_grown w4 B 1 (.slice (some ⟨g2, 0, none⟩) (c.N.length + 1) (c.N.length + 1))) (by omega))
  have HN5 := Lib.hid (row_far Own4.out (setCell_grown w4 B 1 (.slice (some ⟨g2, 0, none⟩) (c.N.length + 1) (c.N.length + 1))) (by omega))
  clear HS4 Own4 HG4 HSb HNb HMb HVb
  generalize w4.setCell ⟨B, 1, none⟩ (.slice (some ⟨g2, 0, none⟩) (c.N.length + 1) (c.N.length + 1)) = W5 at *
  have t0 := HS5.out.tb.c0
  have tf0 := HS5.out.tb.f0
  have t1 := HS5.out.tb.c1
  have tf1 := HS5.out.tb.f1
  have t2 := HS5.out.tb.c2
  have tf2 := HS5.out.tb.f2
  have r0 := HS5.out.rb.c0
  have r1 := HS5.out.rb.c1
  have r2 := HS5.out.rb.c2
  have f0 := HS5.out.rb.f0
  have f1 := HS5.out.rb.f1
  have f2 := HS5.out.rb.f2
  have bz := HS5.out.rb.all (.slice (some ⟨g1, 0, none⟩) (c.V.length + 1) (c.V.length + 1)) (.slice (some ⟨g2, 0, none⟩) (c.N.length + 1) (c.N.length + 1)) (.slice (some ⟨g3, 0, none⟩) c.M.length (c.M.length + 1))
  have v0 := bz.c0
  have v1 := bz.c1
  have v2 := bz.c2
  clear bz
  go_wp2_with fail
  have O5 : Out w W5 (growC c x) g1 (c.V.length + 1) g2 (c.N.length + 1) g3 (c.M.length + 1) :=
    ⟨by have := OwnC.of_row HV5.out; rwa [← show cellsI (growC c x).V = cellsI c.V ++ [Value.int .i64 x] by simp [growC, cellsI]] at this,
      by have := OwnC.of_row HN5.out; rwa [← show cellsP (growC c x).N = cellsP c.N ++ [Value.int .i64 (-1), Value.int .i64 0] by show cellsP (c.N ++ [(-1, 0)]) = _; rw [cellsP_append]; rfl] at this, OwnC.of_row HM5.out, by simp [growC], by simp [growC], Nat.le_succ _, by omega, by omega, by omega, by omega, by omega, by omega, HS5.out.q⟩
  have R5 : OutR w W5 (growC c x) g1 (c.V.length + 1) g2 (c.N.length + 1) g3 (c.M.length + 1) :=
    ⟨O5, by have := row_kept HV5.out (Q.refl _) (show w.heap.size ≤ w.heap.size + 2 by omega); rw [← show cellsI (growC c x).V = cellsI c.V ++ [Value.int .i64 x] by simp [growC, cellsI]] at this; simpa [growC] using this,
      by have := row_kept HN5.out (Q.refl _) (show w.heap.size ≤ w.heap.size + 2 by omega); rw [← show cellsP (growC c x).N = cellsP c.N ++ [Value.int .i64 (-1), Value.int .i64 0] by show cellsP (c.N ++ [(-1, 0)]) = _; rw [cellsP_append]; rfl] at this; simpa [growC] using this⟩
  refine bodyPost_ret (v := .agg #[.slice (some ⟨g1, 0, none⟩) (c.V.length + 1) (c.V.length + 1), .slice (some ⟨g2, 0, none⟩) (c.N.length + 1) (c.N.length + 1), .slice (some ⟨g3, 0, none⟩) c.M.length (c.M.length + 1)]) (by simp [results, Tryz.f262, go_sem, v0, v1, v2]) rfl ⟨g1, c.V.length + 1, g2, c.N.length + 1, g3, c.M.length + 1, by simp [growC], ?_⟩
  exact R5.far (set3_grown W5 (w.heap.size + 1) _ _ _) (by omega) (by omega) (by omega) (by omega)
end Go.Proofs.YtnifmfdlocgefaaGreat.Tr

namespace Go.Proofs.YtnifmfdlocgefaaGreat.Uf
open Go.RowKit Kit Tr

theorem OwnO.far {w w' : World} {B g : Nat} {A : Option Addr} {cs : List Value} (h : OwnO w B A cs) (hg : w.grownBy w' (some g)) (hB : g < B) : OwnO w' B A cs := fun h0 => by
  obtain ⟨g', e, hb, hc⟩ := h h0
  exact ⟨g', e, hb, hc.grown hg (by simp; omega)⟩
theorem OwnO.rds {w : World} {B : Nat} {A : Option Addr} {cs : List Value} (h : OwnO w B A cs) : Rds w w.heap.size A cs := fun h0 => by
  obtain ⟨g', rfl, _, hc⟩ := h h0
  exact hc.rds h0
theorem OwnO.base {w : World} {B B' : Nat} {A : Option Addr} {cs : List Value} (h : OwnO w B A cs) (hB : B' ≤ B) : OwnO w B' A cs := fun h0 => by
  obtain ⟨g', e, hb, hc⟩ := h h0
  exact ⟨g', e, by omega, hc⟩
theorem own_o {w : World} {base : Nat} {e : TypeId} {size n : Nat} {v : Value} {cs : List Value} (h : w.ownsRow base e size v n cs) : ∃ A c, v = .slice A n c ∧ n ≤ c ∧ OwnO w base A cs := by
  have h2 := h
  obtain ⟨hl, ⟨rfl, h0⟩ | ⟨g, cap, cur, rfl, hg, hh, hc, _⟩⟩ := h
  · exact ⟨none, 0, by rw [h0], by omega, fun h => by rw [hl, h0] at h; simp at h⟩
  · exact ⟨_, cap, rfl, hc, fun _ => ⟨g, rfl, hg, OwnC.of_row h2⟩⟩
/-- a copy: nil, or in a block of its own -/
def CloneP (n : Nat) (cs : List Value) (w : World) (e : Ending) (w' : World) : Prop :=
  ∃ A c, e = .returned (.slice A n c) ∧ n ≤ c ∧ OwnO w' w.heap.size A cs ∧ Q w w'

set_option maxHeartbeats 1000000 in
theorem cloneI (A : Option Addr) (n c : Nat) (l : List Int) (w : World) (hn : n = l.length) (hr : Rds w w.heap.size A (cellsI l)) (hl : l.length ≤ 1000000) :
    Calls Tryz.prog 103 #[.slice A n c] w (CloneP l.length (cellsI l) w) := by
  subst hn
  have heq := fun u => Lib.run_eql_slice_nil (P := Tryz.prog) u 24 3 A l.length c 0 0 Tryz.underlying24
  cases A with
  | none =>
    have e : l = [] := by
      rcases Nat.eq_zero_or_pos l.length with h | h
      · exact List.eq_nil_of_length_eq_zero h
      · obtain ⟨_, e, _⟩ := hr (by rw [cellsI_len]; omega); cases e
    subst e
    have heq' : ∀ u, (binOp .eql 24 (.slice none 0 c) (.slice none 0 0)).run Tryz.prog u = .ok (.bool true) u := heq
    clear heq hr hl
    go_enter Tryz.func103, Tryz.ntmps103
    go_wp2_with fail
    go_ret
    exact ⟨none, 0, rfl, Nat.le_refl _, fun h => by simp [cellsI] at h, Q.refl _⟩
  | some ad =>
    have heq' : ∀ u, (binOp .eql 24 (.slice (some ad) l.length c) (.slice none 0 0)).run Tryz.prog u = .ok (.bool false) u := heq
    obtain ⟨i0, hi, hz0, hz1, hz2⟩ := info_parts intInfo
    have Hi := Lib.hid hi
    have Hz0 := Lib.hid hz0
    have Hz1 := Lib.hid hz1
    have Hz2 := Lib.hid hz2
    have HsR := Lib.hid (hr.keep ((Q.refl w).alloc (Obj.cells #[] 3)))
    have Ho := Lib.hid (own_empty (base := w.heap.size) (e := 3) (size := 1) (Nat.le_refl _) (heap_alloc_new w (Obj.cells #[] 3)))
    clear heq hi hz0 hz1 hz2 hr
    go_enter Tryz.func103, Tryz.ntmps103
    go_wp2_with (at_builtin; refine wpList_append_src _ rfl (.tmp 5) (.tmp 6) _ rfl w.heap.size 3 i0 _ 1 8 Tryz.underlying24 Hi.out Hz0.out Hz1.out Hz2.out rfl (by omega) (.slice (some ⟨w.heap.size, 0, none⟩) 0 0) 0 [] rfl Ho.out (some ad) l.length c (cellsI l) rfl (by rw [cellsI_len]; try omega) HsR.out.src (cellsI_one l) (by unfold maxLen; omega) (by omega) (by simp) ?_; intro v' w' own' gr' _)
    have q2 : Q w w' := ((Q.refl w).alloc (Obj.cells #[] 3)).grown gr' (by simp) (by simp [Value.ownBlock])
    rw [Nat.zero_add, List.nil_append] at own'
    have Ho' := Lib.hid own'
    clear own' gr'
    go_wp2_with fail
    go_ret
    obtain ⟨A2, c2, rfl, hle, hA2⟩ := own_o Ho'.out
    exact ⟨A2, c2, rfl, hle, hA2, q2⟩

set_option maxHeartbeats 1000000 in
theorem cloneP (A : Option Addr) (n c : Nat) (l : List Note) (w : World) (hn : n = l.length) (hr : Rds w w.heap.size A (cellsP l)) (hl : l.length ≤ 1000000) :
    Calls Tryz.prog 263 #[.slice A n c] w (CloneP l.length (cellsP l) w) := by
  subst hn
  have heq := fun u => Lib.run_eql_slice_nil (P := Tryz.prog) u 27 195 A l.length c 0 0 Tryz.underlying27
  cases A with
  | none =>
    have e : l = [] := by
      rcases Nat.eq_zero_or_pos l.length with h | h
      · exact List.eq_nil_of_length_eq_zero h
      · obtain ⟨_, e, _⟩ := hr (by rw [cellsP_len]; omega); cases e
    subst e
    have heq' : ∀ u, (binOp .eql 27 (.slice none 0 c) (.slice none 0 0)).run Tryz.prog u = .ok (.bool true) u := heq
    clear heq hr hl
    go_enter Tryz.func263, Tryz.ntmps263
    go_wp2_with fail
    go_ret
    exact ⟨none, 0, rfl, Nat.le_refl _, fun h => by simp [cellsP] at h, Q.refl _⟩
  | some ad =>
    have heq' : ∀ u, (binOp .eql 27 (.slice (some ad) l.length c) (.slice none 0 0)).run Tryz.prog u = .ok (.bool false) u := heq
    obtain ⟨i0, hi, hz0, hz1, hz2⟩ := info_parts noteInfo
    have Hi := Lib.hid hi
    have Hz0 := Lib.hid hz0
    have Hz1 := Lib.hid hz1
    have Hz2 := Lib.hid hz2
    have HsR := Lib.hid (hr.keep ((Q.refl w).alloc (Obj.cells #[] 195)))
    have Ho := Lib.hid (own_empty (base := w.heap.size) (e := 195) (size := 2) (Nat.le_refl _) (heap_alloc_new w (Obj.cells #[] 195)))
    clear heq hi hz0 hz1 hz2 hr
    go_enter Tryz.func263, Tryz.ntmps263
    go_wp2_with (at_builtin; refine wpList_append_src _ rfl (.tmp 5) (.tmp 6) _ rfl w.heap.size 195 i0 _ 2 16 Tryz.underlying27 Hi.out Hz0.out Hz1.out Hz2.out rfl (by omega) (.slice (some ⟨w.heap.size, 0, none⟩) 0 0) 0 [] rfl Ho.out (some ad) l.length c (cellsP l) rfl (by rw [cellsP_len]; try omega) HsR.out.src (cellsP_one l) (by unfold maxLen; omega) (by omega) (by simp) ?_; intro v' w' own' gr' _)
    have q2 : Q w w' := ((Q.refl w).alloc (Obj.cells #[] 195)).grown gr' (by simp) (by simp [Value.ownBlock])
    rw [Nat.zero_add, List.nil_append] at own'
    have Ho' := Lib.hid own'
    clear own' gr'
    go_wp2_with fail
    go_ret
    obtain ⟨A2, c2, rfl, hle, hA2⟩ := own_o Ho'.out
    exact ⟨A2, c2, rfl, hle, hA2, q2⟩

/-- what a call answers: cells, each row nil or in a block of its own -/
structure OutO (w w' : World) (c : Cells) (A : Option Addr) (k1 : Nat) (D : Option Addr) (k2 : Nat) (E : Option Addr) (k3 : Nat) : Prop where
  v : OwnO w' w.heap.size A (cellsI c.V)
  n : OwnO w' w.heap.size D (cellsP c.N)
  m : OwnO w' w.heap.size E (cellsI c.M)
  lv : c.V.length ≤ k1
  ln : c.N.length ≤ k2
  lm : c.M.length ≤ k3
  q : Q w w'
theorem OutO.rd {w w' : World} {c : Cells} {A : Option Addr} {k1 : Nat} {D : Option Addr} {k2 : Nat} {E : Option Addr} {k3 : Nat} (h : OutO w w' c A k1 D k2 E k3) : Rd w' c A k1 D k2 E k3 := ⟨OwnO.rds h.v, OwnO.rds h.n, OwnO.rds h.m, h.lv, h.ln, h.lm⟩
/-- stores into an older box -/
theorem OutO.far {w0 w w' w'' : World} {c : Cells} {A : Option Addr} {k1 : Nat} {D : Option Addr} {k2 : Nat} {E : Option Addr} {k3 B : Nat} (h : OutO w w' c A k1 D k2 E k3) (hq : Q w0 w) (hg : w'.grownBy w'' (some B)) (hB : B < w.heap.size) (hB0 : w0.heap.size ≤ B) : OutO w0 w'' c A k1 D k2 E k3 :=
  ⟨OwnO.base (OwnO.far h.v hg hB) hq.size, OwnO.base (OwnO.far h.n hg hB) hq.size, OwnO.base (OwnO.far h.m hg hB) hq.size, h.lv, h.ln, h.lm, grown_q hg (hq.trans h.q) hB0⟩
theorem OutO.of {w w' : World} {c : Cells} {g1 k1 g2 k2 g3 k3 : Nat} (h : Out w w' c g1 k1 g2 k2 g3 k3) : OutO w w' c (some ⟨g1, 0, none⟩) k1 (some ⟨g2, 0, none⟩) k2 (some ⟨g3, 0, none⟩) k3 :=
  ⟨fun _ => ⟨g1, rfl, h.o1, h.v⟩, fun _ => ⟨g2, rfl, h.o2, h.n⟩, fun _ => ⟨g3, rfl, h.o3, h.m⟩, h.lv, h.ln, h.lm, h.q⟩
def OPost (c : Cells) (w : World) (e : Ending) (w' : World) : Prop :=
  ∃ A k1 D k2 E k3, e = .returned (.agg #[.slice A c.V.length k1, .slice D c.N.length k2, .slice E c.M.length k3]) ∧ OutO w w' c A k1 D k2 E k3

set_option maxRecDepth 100000 in
set_option maxHeartbeats 2000000 in
theorem copyU (c : Cells) (A D E : Option Addr) (n1 k1 n2 k2 n3 k3 : Nat) (w : World) (h1 : n1 = c.V.length) (h2 : n2 = c.N.length) (h3 : n3 = c.M.length) (h : Rd w c A k1 D k2 E k3) (hf : Few c 1000000) :
    Calls Tryz.prog 189 #[.agg #[.slice A n1 k1, .slice D n2 k2, .slice E n3 k3]] w (OPost c w) := by
  subst h1 h2 h3
  obtain ⟨f1, f2, f3⟩ := hf
  obtain ⟨W0, hW0, q0, hz0, hB, hX⟩ := boxes w (Value.slice A c.V.length k1) (Value.slice D c.N.length k2) (Value.slice E c.M.length k3) 29
  have HB := Lib.hid hB
  have HX := Lib.hid hX
  have HR := Lib.hid (h.q q0)
  have HZ := Lib.hid hz0
  have HW := Lib.hid hW0
  clear h hB hX hz0 hW0
  go_enter Tryz.func189, Tryz.ntmps189
  go_upto_region 1 with fail
  rw [← HW.out]
  clear HW
  have HV : Hid (∀ W, Q W0 W → Calls Tryz.prog 103 #[.slice A c.V.length k1] W (CloneP c.V.length (cellsI c.V) W)) := fun W q => cloneI A _ k1 c.V W rfl (HR.out.v.q q) f1
  have HN : Hid (∀ W, Q W0 W → Calls Tryz.prog 263 #[.slice D c.N.length k2] W (CloneP c.N.length (cellsP c.N) W)) := fun W q => cloneP D _ k2 c.N W rfl (HR.out.n.q q) f2
  have HM : Hid (∀ W, Q W0 W → Calls Tryz.prog 103 #[.slice E c.M.length k3] W (CloneP c.M.length (cellsI c.M) W)) := fun W q => cloneI E _ k3 c.M W rfl (HR.out.m.q q) f3
  have c0 := HB.out.c0
  have c1 := HB.out.c1
  have c2 := HB.out.c2
  have hlt0 := HB.out.lt
  go_region_held3 (fun w' => w'.cell? ⟨w.heap.size, 0, none⟩ = some (.slice A c.V.length k1) ∧ w'.cell? ⟨w.heap.size, 1, none⟩ = some (.slice D c.N.length k2) ∧ w'.cell? ⟨w.heap.size, 2, none⟩ = some (.slice E c.M.length k3))
    (first
      | go_keep
      | exact ⟨(p3.cell (p := ⟨w.heap.size, 0, none⟩) hlt0).trans c0, (p3.cell (p := ⟨w.heap.size, 1, none⟩) hlt0).trans c1, (p3.cell (p := ⟨w.heap.size, 2, none⟩) hlt0).trans c2⟩
      | exact ⟨(p2.cell (p := ⟨w.heap.size, 0, none⟩) hlt0).trans c0, (p2.cell (p := ⟨w.heap.size, 1, none⟩) hlt0).trans c1, (p2.cell (p := ⟨w.heap.size, 2, none⟩) hlt0).trans c2⟩
      | exact ⟨(p1.cell (p := ⟨w.heap.size, 0, none⟩) hlt0).trans c0, (p1.cell (p := ⟨w.heap.size, 1, none⟩) hlt0).trans c1, (p1.cell (p := ⟨w.heap.size, 2, none⟩) hlt0).trans c2⟩
      | exact (((HB.out.q p3).far (g := w.heap.size + 1) (by omega) _).far (g := w.heap.size + 1) (by omega) _).far (g := w.heap.size + 1) (by omega) _ |>.three)
    (first
      | (go_at_call 103; (with_reducible refine (HV.out _ (Q.refl W0).drew).mono ?_); rintro e w1 ⟨A1, l1, rfl, hl1, own1, q1⟩; have Own1 := Lib.hid own1; clear own1; have p1 : Q W0 w1 := (Q.refl W0).drew.trans q1)
      | (go_at_call 263; (with_reducible refine (HN.out _ p1).mono ?_); rintro e w2 ⟨A2, l2, rfl, hl2, own2, q2⟩; have Own2 := Lib.hid own2; clear own2; have p2 : Q W0 w2 := p1.trans q2)
      | (go_at_call 103; (with_reducible refine (HM.out _ p2).mono ?_); rintro e w3 ⟨A3, l3, rfl, hl3, own3, q3⟩; have Own3 := Lib.hid own3; clear own3; have p3 : Q W0 w3 := p2.trans q3; have bx := HX.out.q p3; have y0 := bx.c0; have y1 := bx.c1; have y2 := bx.c2; have z0 := bx.f0; have z1 := bx.f1; have z2 := bx.f2))
  clear y0 y1 y2 z0 z1 z2 c0 c1 c2
  have bz := bx.all (.slice A1 c.V.length l1) (.slice A2 c.N.length l2) (.slice A3 c.M.length l3)
  have y0 := bz.c0
  have y1 := bz.c1
  have y2 := bz.c2
  have hgr := Lib.hid (set3_grown w3 (w.heap.size + 1) (.slice A1 c.V.length l1) (.slice A2 c.N.length l2) (.slice A3 c.M.length l3))
  have hz := HZ.out
  have z1 : W0.heap.size ≤ w1.heap.size := p1.size
  have z2 := p2.size
  go_wp2_with fail
  refine bodyPost_ret (v := .agg #[.slice A1 c.V.length l1, .slice A2 c.N.length l2, .slice A3 c.M.length l3]) (by simp [results, Tryz.f189, go_sem, y0, y1, y2]) rfl ⟨A1, l1, A2, l2, A3, l3, rfl, ?_⟩
  exact ⟨OwnO.base (OwnO.far ((OwnO.q Own1.out q2).q q3) hgr.out (by show w.heap.size + 1 < W0.heap.size; omega)) (by show w.heap.size ≤ W0.heap.size; omega), OwnO.base (OwnO.far (OwnO.q Own2.out q3) hgr.out (by omega)) (by omega), OwnO.base (OwnO.far Own3.out hgr.out (by omega)) (by omega), hl1, hl2, hl3, grown_q hgr.out (q0.trans p3) (by omega)⟩
end Go.Proofs.YtnifmfdlocgefaaGreat.Uf

namespace Go.Proofs.YtnifmfdlocgefaaGreat.Uf
open Go.RowKit Kit Tr

/-- two classes, joined -/
def joinC (R : List Int) (c : Cells) (a b : Nat) : Cells :=
  if fst c.V a = fst c.V b then c else if lessB R (fst c.V b) (fst c.V a) = true then setC c (fst c.V a) (fst c.V b : Int) else setC c (fst c.V b) (fst c.V a : Int)

set_option maxRecDepth 100000 in
set_option maxHeartbeats 2000000 in
theorem join_same (R : List Int) (c : Cells) (a b x y : Nat) (A D E F : Option Addr) (n1 k1 n2 k2 n3 k3 n4 k4 : Nat) (w : World) (h1 : n1 = c.V.length) (h2 : n2 = c.N.length) (h3 : n3 = c.M.length) (h4 : n4 = R.length) (h : Rd w c A k1 D k2 E k3) (hR : Rds w w.heap.size F (cellsI R)) (hf : Few c 1000000) (hC : Cl R c.V) (ha : a < c.V.length) (hb : b < c.V.length) (hx : fst c.V a = x) (hy : fst c.V b = y) (hl : lessB R y x = false) (he : x = y) :
    Calls Tryz.prog 128 #[.agg #[.slice A n1 k1, .slice D n2 k2, .slice E n3 k3], .slice F n4 k4, .int .i64 (a : Int), .int .i64 (b : Int)] w (OPost c w) := by
  subst h1 h2 h3 h4
  obtain ⟨W0, hW0, q0, hz0, hB, hX⟩ := boxes w (Value.slice A c.V.length k1) (Value.slice D c.N.length k2) (Value.slice E c.M.length k3) 29
  have HB := Lib.hid hB
  have HX := Lib.hid hX
  have HR := Lib.hid (h.q q0)
  have HRk := Lib.hid (hR.q q0)
  have HZ := Lib.hid hz0
  have HW := Lib.hid hW0
  have Hf := Lib.hid hf
  have hxl : x < c.V.length := by rw [← hx]; exact (hC.fst_in a ha).1
  have hyl : y < c.V.length := by rw [← hy]; exact (hC.fst_in b hb).1
  have Ha : Hid (∀ W, Q W0 W → Calls Tryz.prog 65 #[.agg #[.slice A c.V.length k1, .slice D c.N.length k2, .slice E c.M.length k3], .int .i64 (a : Int)] W fun e W' => e = .returned (.int .i64 (x : Int)) ∧ Q W W') := fun W q => by have := find_any R c a A D E _ k1 _ k2 _ k3 W rfl rfl rfl (HR.out.q q) hC ha hf.1; rwa [hx] at this
  have Hb : Hid (∀ W, Q W0 W → Calls Tryz.prog 65 #[.agg #[.slice A c.V.length k1, .slice D c.N.length k2, .slice E c.M.length k3], .int .i64 (b : Int)] W fun e W' => e = .returned (.int .i64 (y : Int)) ∧ Q W W') := fun W q => by have := find_any R c b A D E _ k1 _ k2 _ k3 W rfl rfl rfl (HR.out.q q) hC hb hf.1; rwa [hy] at this
  have HL : Hid (∀ W, Q W0 W → Calls Tryz.prog 108 #[.slice F R.length k4, .int .i64 (y : Int), .int .i64 (x : Int)] W fun e W' => e = .returned (.bool (lessB R y x)) ∧ Q W W') := fun W q => less_any R F _ k4 y x W rfl (HRk.out.q q)
  clear h hR hB hX hz0 hW0 hx hy ha hb hC hf
  go_enter Tryz.func128, Tryz.ntmps128
  go_upto_region 1 with fail
  rw [← HW.out]
  clear HW
  have c0 := HB.out.c0
  have c1 := HB.out.c1
  have c2 := HB.out.c2
  have hlt0 := HB.out.lt
  go_region_held3 (fun w' => w'.cell? ⟨w.heap.size, 0, none⟩ = some (.slice A c.V.length k1) ∧ w'.cell? ⟨w.heap.size, 1, none⟩ = some (.slice D c.N.length k2) ∧ w'.cell? ⟨w.heap.size, 2, none⟩ = some (.slice E c.M.length k3))
    (first
      | go_keep
      | exact ⟨(p2.cell (p := ⟨w.heap.size, 0, none⟩) hlt0).trans c0, (p2.cell (p := ⟨w.heap.size, 1, none⟩) hlt0).trans c1, (p2.cell (p := ⟨w.heap.size, 2, none⟩) hlt0).trans c2⟩
      | exact ⟨(p1.cell (p := ⟨w.heap.size, 0, none⟩) hlt0).trans c0, (p1.cell (p := ⟨w.heap.size, 1, none⟩) hlt0).trans c1, (p1.cell (p := ⟨w.heap.size, 2, none⟩) hlt0).trans c2⟩)
    (first
      | (go_at_call 65; (with_reducible refine (Ha.out _ (Q.refl W0).drew).mono ?_); rintro e w1 ⟨rfl, q1⟩; have p1 : Q W0 w1 := (Q.refl W0).drew.trans q1)
      | (go_at_call 65; (with_reducible refine (Hb.out _ p1).mono ?_); rintro e w2 ⟨rfl, q2⟩; have p2 : Q W0 w2 := p1.trans q2))
  clear c0 c1 c2 q1 q2 p1
  have c0 := (HB.out.q p2).c0
  have c1 := (HB.out.q p2).c1
  have c2 := (HB.out.q p2).c2
  have HL2 := Lib.hid (HL.out w2 p2)
  have Hp2 := Lib.hid p2
  clear HL p2 Ha Hb
  have HLB := Lib.hid hl
  subst he
  clear hl
  rw [HLB.out] at HL2
  go_wp2_with (first
    | (go_at_call 108; refine HL2.out.mono ?_; rintro e w3 ⟨rfl, q3⟩; have HB3 := Lib.hid ((HB.out.q Hp2.out).q q3); have HR3 := Lib.hid ((HR.out.q Hp2.out).q q3); have HX3 := Lib.hid ((HX.out.q Hp2.out).q q3); have Hq3 := Lib.hid (Hp2.out.trans q3); clear q3; have c0 := HB3.out.c0; have c1 := HB3.out.c1; have c2 := HB3.out.c2)
    | (go_at_call 189; refine (copyU c A D E _ k1 _ k2 _ k3 w3 rfl rfl rfl HR3.out Hf.out).mono ?_; rintro e w5 ⟨A5, l1, D5, l2, E5, l3, rfl, hO⟩; have HO := Lib.hid hO; have bx := HX3.out.q hO.q; have x0 := bx.c0; have x1 := bx.c1; have x2 := bx.c2; have u0 := bx.f0; have u1 := bx.f1; have u2 := bx.f2; clear hO))
  have bz := bx.all (.slice A5 c.V.length l1) (.slice D5 c.N.length l2) (.slice E5 c.M.length l3)
  have y0 := bz.c0
  have y1 := bz.c1
  have y2 := bz.c2
  have hz := HZ.out
  have hz3 : W0.heap.size ≤ w3.heap.size := Hq3.out.size
  have hgr := set3_grown w5 (w.heap.size + 1) (.slice A5 c.V.length l1) (.slice D5 c.N.length l2) (.slice E5 c.M.length l3)
  exact bodyPost_ret (v := .agg #[.slice A5 c.V.length l1, .slice D5 c.N.length l2, .slice E5 c.M.length l3]) (by simp [results, Tryz.f128, go_sem, y0, y1, y2]) rfl ⟨_, l1, _, l2, _, l3, rfl, HO.out.far (q0.trans Hq3.out) hgr (by omega) (by omega)⟩

set_option maxRecDepth 100000 in
set_option maxHeartbeats 2000000 in
theorem join_swap (R : List Int) (c : Cells) (a b x y : Nat) (A D E F : Option Addr) (n1 k1 n2 k2 n3 k3 n4 k4 : Nat) (w : World) (h1 : n1 = c.V.length) (h2 : n2 = c.N.length) (h3 : n3 = c.M.length) (h4 : n4 = R.length) (h : Rd w c A k1 D k2 E k3) (hR : Rds w w.heap.size F (cellsI R)) (hf : Few c 1000000) (hC : Cl R c.V) (ha : a < c.V.length) (hb : b < c.V.length) (hx : fst c.V a = x) (hy : fst c.V b = y) (hl : lessB R y x = true) (he : x ≠ y) :
    Calls Tryz.prog 128 #[.agg #[.slice A n1 k1, .slice D n2 k2, .slice E n3 k3], .slice F n4 k4, .int .i64 (a : Int), .int .i64 (b : Int)] w (OPost (setC c x (y : Int)) w) := by
  subst h1 h2 h3 h4
  obtain ⟨W0, hW0, q0, hz0, hB, hX⟩ := boxes w (Value.slice A c.V.length k1) (Value.slice D c.N.length k2) (Value.slice E c.M.length k3) 29
  have HB := Lib.hid hB
  have HX := Lib.hid hX
  have HR := Lib.hid (h.q q0)
  have HRk := Lib.hid (hR.q q0)
  have HZ := Lib.hid hz0
  have HW := Lib.hid hW0
  have Hf := Lib.hid hf
  have hxl : x < c.V.length := by rw [← hx]; exact (hC.fst_in a ha).1
  have hyl : y < c.V.length := by rw [← hy]; exact (hC.fst_in b hb).1
  have Ha : Hid (∀ W, Q W0 W → Calls Tryz.prog 65 #[.agg #[.slice A c.V.length k1, .slice D c.N.length k2, .slice E c.M.length k3], .int .i64 (a : Int)] W fun e W' => e = .returned (.int .i64 (x : Int)) ∧ Q W W') := fun W q => by have := find_any R c a A D E _ k1 _ k2 _ k3 W rfl rfl rfl (HR.out.q q) hC ha hf.1; rwa [hx] at this
  have Hb : Hid (∀ W, Q W0 W → Calls Tryz.prog 65 #[.agg #[.slice A c.V.length k1, .slice D c.N.length k2, .slice E c.M.length k3], .int .i64 (b : Int)] W fun e W' => e = .returned (.int .i64 (y : Int)) ∧ Q W W') := fun W q => by have := find_any R c b A D E _ k1 _ k2 _ k3 W rfl rfl rfl (HR.out.q q) hC hb hf.1; rwa [hy] at this
  have HL : Hid (∀ W, Q W0 W → Calls Tryz.prog 108 #[.slice F R.length k4, .int .i64 (y : Int), .int .i64 (x : Int)] W fun e W' => e = .returned (.bool (lessB R y x)) ∧ Q W W') := fun W q => less_any R F _ k4 y x W rfl (HRk.out.q q)
  clear h hR hB hX hz0 hW0 hx hy ha hb hC hf
  go_enter Tryz.func128, Tryz.ntmps128
  go_upto_region 1 with fail
  rw [← HW.out]
  clear HW
  have c0 := HB.out.c0
  have c1 := HB.out.c1
  have c2 := HB.out.c2
  have hlt0 := HB.out.lt
  go_region_held3 (fun w' => w'.cell? ⟨w.heap.size, 0, none⟩ = some (.slice A c.V.length k1) ∧ w'.cell? ⟨w.heap.size, 1, none⟩ = some (.slice D c.N.length k2) ∧ w'.cell? ⟨w.heap.size, 2, none⟩ = some (.slice E c.M.length k3))
    (first
      | go_keep
      | exact ⟨(p2.cell (p := ⟨w.heap.size, 0, none⟩) hlt0).trans c0, (p2.cell (p := ⟨w.heap.size, 1, none⟩) hlt0).trans c1, (p2.cell (p := ⟨w.heap.size, 2, none⟩) hlt0).trans c2⟩
      | exact ⟨(p1.cell (p := ⟨w.heap.size, 0, none⟩) hlt0).trans c0, (p1.cell (p := ⟨w.heap.size, 1, none⟩) hlt0).trans c1, (p1.cell (p := ⟨w.heap.size, 2, none⟩) hlt0).trans c2⟩)
    (first
      | (go_at_call 65; (with_reducible refine (Ha.out _ (Q.refl W0).drew).mono ?_); rintro e w1 ⟨rfl, q1⟩; have p1 : Q W0 w1 := (Q.refl W0).drew.trans q1)
      | (go_at_call 65; (with_reducible refine (Hb.out _ p1).mono ?_); rintro e w2 ⟨rfl, q2⟩; have p2 : Q W0 w2 := p1.trans q2))
  clear c0 c1 c2 q1 q2 p1
  have c0 := (HB.out.q p2).c0
  have c1 := (HB.out.q p2).c1
  have c2 := (HB.out.q p2).c2
  have HL2 := Lib.hid (HL.out w2 p2)
  have Hp2 := Lib.hid p2
  clear HL p2 Ha Hb
  have HLB := Lib.hid hl
  have hdx : (decide (0 ≤ (x : Int)) && decide ((x : Int) < (c.V.length : Int))) = true := by rw [decide_eq_true (show (0 : Int) ≤ (x : Int) by omega), decide_eq_true (show (x : Int) < (c.V.length : Int) by omega)]; rfl
  have hdy : (decide (0 ≤ (y : Int)) && decide ((y : Int) < (c.V.length : Int))) = true := by rw [decide_eq_true (show (0 : Int) ≤ (y : Int) by omega), decide_eq_true (show (y : Int) < (c.V.length : Int) by omega)]; rfl
  have e1 : ((x : Int) == (y : Int)) = false := beq_eq_false_iff_ne.2 (by omega)
  have e2 : (x == y) = false := beq_eq_false_iff_ne.2 he
  have e3 : ((y : Int) == (x : Int)) = false := beq_eq_false_iff_ne.2 (by omega)
  have e4 : (y == x) = false := beq_eq_false_iff_ne.2 (fun e => he e.symm)
  clear hl he
  rw [HLB.out] at HL2
  go_wp2_with (first
    | (go_at_call 108; refine HL2.out.mono ?_; rintro e w3 ⟨rfl, q3⟩; have HB3 := Lib.hid ((HB.out.q Hp2.out).q q3); have HR3 := Lib.hid ((HR.out.q Hp2.out).q q3); have HX3 := Lib.hid ((HX.out.q Hp2.out).q q3); have Hq3 := Lib.hid (Hp2.out.trans q3); clear q3; have c0 := HB3.out.c0; have c1 := HB3.out.c1; have c2 := HB3.out.c2)
    | (go_at_call 188; refine (placeU _ _ _).mono ?_; rintro e w4 ⟨rfl, rfl⟩; first | rw [hdx] | rw [hdy])
    | (go_at_call 190; refine (set_some c x (y : Int) A D E _ k1 _ k2 _ k3 w3 rfl rfl rfl HR3.out Hf.out hxl).mono ?_; rintro e w5 ⟨g1, l1, g2, l2, g3, l3, rfl, hO⟩; have HO := Lib.hid hO; have qb := (Q.refl w5).alloc (Obj.cells #[(.slice (some ⟨g1, 0, none⟩) (setC c x (y : Int)).V.length l1), (.slice (some ⟨g2, 0, none⟩) (setC c x (y : Int)).N.length l2), (.slice (some ⟨g3, 0, none⟩) (setC c x (y : Int)).M.length l3)] 29); have bx := (HX3.out.q hO.q).q qb; have x0 := bx.c0; have x1 := bx.c1; have x2 := bx.c2; have u0 := bx.f0; have u1 := bx.f1; have u2 := bx.f2; clear hO))
  have bz := bx.all (.slice (some ⟨g1, 0, none⟩) (setC c x (y : Int)).V.length l1) (.slice (some ⟨g2, 0, none⟩) (setC c x (y : Int)).N.length l2) (.slice (some ⟨g3, 0, none⟩) (setC c x (y : Int)).M.length l3)
  have y0 := bz.c0
  have y1 := bz.c1
  have y2 := bz.c2
  have hz := HZ.out
  have hz3 : W0.heap.size ≤ w3.heap.size := Hq3.out.size
  have o1 := HO.out.o1
  have o2 := HO.out.o2
  have o3 := HO.out.o3
  have O4 := out_end ((HO.out.from (q0.trans Hq3.out)).more qb) (by omega) (by omega) (by omega) (.slice (some ⟨g1, 0, none⟩) (setC c x (y : Int)).V.length l1) (.slice (some ⟨g2, 0, none⟩) (setC c x (y : Int)).N.length l2) (.slice (some ⟨g3, 0, none⟩) (setC c x (y : Int)).M.length l3)
  exact bodyPost_ret (v := .agg #[.slice (some ⟨g1, 0, none⟩) (setC c x (y : Int)).V.length l1, .slice (some ⟨g2, 0, none⟩) (setC c x (y : Int)).N.length l2, .slice (some ⟨g3, 0, none⟩) (setC c x (y : Int)).M.length l3]) (by simp [results, Tryz.f128, go_sem, y0, y1, y2]) rfl ⟨_, l1, _, l2, _, l3, rfl, OutO.of O4⟩

set_option maxRecDepth 100000 in
set_option maxHeartbeats 2000000 in
theorem join_put (R : List Int) (c : Cells) (a b x y : Nat) (A D E F : Option Addr) (n1 k1 n2 k2 n3 k3 n4 k4 : Nat) (w : World) (h1 : n1 = c.V.length) (h2 : n2 = c.N.length) (h3 : n3 = c.M.length) (h4 : n4 = R.length) (h : Rd w c A k1 D k2 E k3) (hR : Rds w w.heap.size F (cellsI R)) (hf : Few c 1000000) (hC : Cl R c.V) (ha : a < c.V.length) (hb : b < c.V.length) (hx : fst c.V a = x) (hy : fst c.V b = y) (hl : lessB R y x = false) (he : x ≠ y) :
    Calls Tryz.prog 128 #[.agg #[.slice A n1 k1, .slice D n2 k2, .slice E n3 k3], .slice F n4 k4, .int .i64 (a : Int), .int .i64 (b : Int)] w (OPost (setC c y (x : Int)) w) := by
  subst h1 h2 h3 h4
  obtain ⟨W0, hW0, q0, hz0, hB, hX⟩ := boxes w (Value.slice A c.V.length k1) (Value.slice D c.N.length k2) (Value.slice E c.M.length k3) 29
  have HB := Lib.hid hB
  have HX := Lib.hid hX
  have HR := Lib.hid (h.q q0)
  have HRk := Lib.hid (hR.q q0)
  have HZ := Lib.hid hz0
  have HW := Lib.hid hW0
  have Hf := Lib.hid hf
  have hxl : x < c.V.length := by rw [← hx]; exact (hC.fst_in a ha).1
  have hyl : y < c.V.length := by rw [← hy]; exact (hC.fst_in b hb).1
  have Ha : Hid (∀ W, Q W0 W → Calls Tryz.prog 65 #[.agg #[.slice A c.V.length k1, .slice D c.N.length k2, .slice E c.M.length k3], .int .i64 (a : Int)] W fun e W' => e = .returned (.int .i64 (x : Int)) ∧ Q W W') := fun W q => by have := find_any R c a A D E _ k1 _ k2 _ k3 W rfl rfl rfl (HR.out.q q) hC ha hf.1; rwa [hx] at this
  have Hb : Hid (∀ W, Q W0 W → Calls Tryz.prog 65 #[.agg #[.slice A c.V.length k1, .slice D c.N.length k2, .slice E c.M.length k3], .int .i64 (b : Int)] W fun e W' => e = .returned (.int .i64 (y : Int)) ∧ Q W W') := fun W q => by have := find_any R c b A D E _ k1 _ k2 _ k3 W rfl rfl rfl (HR.out.q q) hC hb hf.1; rwa [hy] at this
  have HL : Hid (∀ W, Q W0 W → Calls Tryz.prog 108 #[.slice F R.length k4, .int .i64 (y : Int), .int .i64 (x : Int)] W fun e W' => e = .returned (.bool (lessB R y x)) ∧ Q W W') := fun W q => less_any R F _ k4 y x W rfl (HRk.out.q q)
  clear h hR hB hX hz0 hW0 hx hy ha hb hC hf
  go_enter Tryz.func128, Tryz.ntmps128
  go_upto_region 1 with fail
  rw [← HW.out]
  clear HW
  have c0 := HB.out.c0
  have c1 := HB.out.c1
  have c2 := HB.out.c2
  have hlt0 := HB.out.lt
  go_region_held3 (fun w' => w'.cell? ⟨w.heap.size, 0, none⟩ = some (.slice A c.V.length k1) ∧ w'.cell? ⟨w.heap.size, 1, none⟩ = some (.slice D c.N.length k2) ∧ w'.cell? ⟨w.heap.size, 2, none⟩ = some (.slice E c.M.length k3))
    (first
      | go_keep
      | exact ⟨(p2.cell (p := ⟨w.heap.size, 0, none⟩) hlt0).trans c0, (p2.cell (p := ⟨w.heap.size, 1, none⟩) hlt0).trans c1, (p2.cell (p := ⟨w.heap.size, 2, none⟩) hlt0).trans c2⟩
      | exact ⟨(p1.cell (p := ⟨w.heap.size, 0, none⟩) hlt0).trans c0, (p1.cell (p := ⟨w.heap.size, 1, none⟩) hlt0).trans c1, (p1.cell (p := ⟨w.heap.size, 2, none⟩) hlt0).trans c2⟩)
    (first
      | (go_at_call 65; (with_reducible refine (Ha.out _ (Q.refl W0).drew).mono ?_); rintro e w1 ⟨rfl, q1⟩; have p1 : Q W0 w1 := (Q.refl W0).drew.trans q1)
      | (go_at_call 65; (with_reducible refine (Hb.out _ p1).mono ?_); rintro e w2 ⟨rfl, q2⟩; have p2 : Q W0 w2 := p1.trans q2))
  clear c0 c1 c2 q1 q2 p1
  have c0 := (HB.out.q p2).c0
  have c1 := (HB.out.q p2).c1
  have c2 := (HB.out.q p2).c2
  have HL2 := Lib.hid (HL.out w2 p2)
  have Hp2 := Lib.hid p2
  clear HL p2 Ha Hb
  have HLB := Lib.hid hl
  have hdx : (decide (0 ≤ (x : Int)) && decide ((x : Int) < (c.V.length : Int))) = true := by rw [decide_eq_true (show (0 : Int) ≤ (x : Int) by omega), decide_eq_true (show (x : Int) < (c.V.length : Int) by omega)]; rfl
  have hdy : (decide (0 ≤ (y : Int)) && decide ((y : Int) < (c.V.length : Int))) = true := by rw [decide_eq_true (show (0 : Int) ≤ (y : Int) by omega), decide_eq_true (show (y : Int) < (c.V.length : Int) by omega)]; rfl
  have e1 : ((x : Int) == (y : Int)) = false := beq_eq_false_iff_ne.2 (by omega)
  have e2 : (x == y) = false := beq_eq_false_iff_ne.2 he
  have e3 : ((y : Int) == (x : Int)) = false := beq_eq_false_iff_ne.2 (by omega)
  have e4 : (y == x) = false := beq_eq_false_iff_ne.2 (fun e => he e.symm)
  clear hl he
  rw [HLB.out] at HL2
  go_wp2_with (first
    | (go_at_call 108; refine HL2.out.mono ?_; rintro e w3 ⟨rfl, q3⟩; have HB3 := Lib.hid ((HB.out.q Hp2.out).q q3); have HR3 := Lib.hid ((HR.out.q Hp2.out).q q3); have HX3 := Lib.hid ((HX.out.q Hp2.out).q q3); have Hq3 := Lib.hid (Hp2.out.trans q3); clear q3; have c0 := HB3.out.c0; have c1 := HB3.out.c1; have c2 := HB3.out.c2)
    | (go_at_call 188; refine (placeU _ _ _).mono ?_; rintro e w4 ⟨rfl, rfl⟩; first | rw [hdx] | rw [hdy])
    | (go_at_call 190; refine (set_some c y (x : Int) A D E _ k1 _ k2 _ k3 w3 rfl rfl rfl HR3.out Hf.out hyl).mono ?_; rintro e w5 ⟨g1, l1, g2, l2, g3, l3, rfl, hO⟩; have HO := Lib.hid hO; have qb := (Q.refl w5).alloc (Obj.cells #[(.slice (some ⟨g1, 0, none⟩) (setC c y (x : Int)).V.length l1), (.slice (some ⟨g2, 0, none⟩) (setC c y (x : Int)).N.length l2), (.slice (some ⟨g3, 0, none⟩) (setC c y (x : Int)).M.length l3)] 29); have bx := (HX3.out.q hO.q).q qb; have x0 := bx.c0; have x1 := bx.c1; have x2 := bx.c2; have u0 := bx.f0; have u1 := bx.f1; have u2 := bx.f2; clear hO))
  have bz := bx.all (.slice (some ⟨g1, 0, none⟩) (setC c y (x : Int)).V.length l1) (.slice (some ⟨g2, 0, none⟩) (setC c y (x : Int)).N.length l2) (.slice (some ⟨g3, 0, none⟩) (setC c y (x : Int)).M.length l3)
  have y0 := bz.c0
  have y1 := bz.c1
  have y2 := bz.c2
  have hz := HZ.out
  have hz3 : W0.heap.size ≤ w3.heap.size := Hq3.out.size
  have o1 := HO.out.o1
  have o2 := HO.out.o2
  have o3 := HO.out.o3
  have O4 := out_end ((HO.out.from (q0.trans Hq3.out)).more qb) (by omega) (by omega) (by omega) (.slice (some ⟨g1, 0, none⟩) (setC c y (x : Int)).V.length l1) (.slice (some ⟨g2, 0, none⟩) (setC c y (x : Int)).N.length l2) (.slice (some ⟨g3, 0, none⟩) (setC c y (x : Int)).M.length l3)
  exact bodyPost_ret (v := .agg #[.slice (some ⟨g1, 0, none⟩) (setC c y (x : Int)).V.length l1, .slice (some ⟨g2, 0, none⟩) (setC c y (x : Int)).N.length l2, .slice (some ⟨g3, 0, none⟩) (setC c y (x : Int)).M.length l3]) (by simp [results, Tryz.f128, go_sem, y0, y1, y2]) rfl ⟨_, l1, _, l2, _, l3, rfl, OutO.of O4⟩

theorem join_any (R : List Int) (c : Cells) (a b : Nat) (A D E F : Option Addr) (n1 k1 n2 k2 n3 k3 n4 k4 : Nat) (w : World) (h1 : n1 = c.V.length) (h2 : n2 = c.N.length) (h3 : n3 = c.M.length) (h4 : n4 = R.length) (h : Rd w c A k1 D k2 E k3) (hR : Rds w w.heap.size F (cellsI R)) (hf : Few c 1000000) (hC : Cl R c.V) (ha : a < c.V.length) (hb : b < c.V.length) :
    Calls Tryz.prog 128 #[.agg #[.slice A n1 k1, .slice D n2 k2, .slice E n3 k3], .slice F n4 k4, .int .i64 (a : Int), .int .i64 (b : Int)] w (OPost (joinC R c a b) w) := by
  unfold joinC
  by_cases e : fst c.V a = fst c.V b
  · rw [if_pos e]
    exact join_same R c a b _ _ A D E F n1 k1 n2 k2 n3 k3 n4 k4 w h1 h2 h3 h4 h hR hf hC ha hb rfl rfl (by rw [e, less_self]) e
  · rw [if_neg e]
    by_cases hl : lessB R (fst c.V b) (fst c.V a) = true
    · rw [if_pos hl]
      exact join_swap R c a b _ _ A D E F n1 k1 n2 k2 n3 k3 n4 k4 w h1 h2 h3 h4 h hR hf hC ha hb rfl rfl hl e
    · rw [if_neg hl]
      exact join_put R c a b _ _ A D E F n1 k1 n2 k2 n3 k3 n4 k4 w h1 h2 h3 h4 h hR hf hC ha hb rfl rfl (by simpa using hl) e
end Go.Proofs.YtnifmfdlocgefaaGreat.Uf
