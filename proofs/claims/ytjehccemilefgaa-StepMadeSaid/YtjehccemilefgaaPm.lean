/-
  What the proofs lean on, part 13 of 16.
-/
import Derived.Test.YtjehccemilefgaaPg
import Derived.Test.YtjehccemilefgaaPj
import Derived.Test.YtjehccemilefgaaPl
namespace Go.Proofs.Ytjehccemilefgaa.St
open Go.RowKit Kit Rw Go.Maps
open Go.Proofs.Ytjehccemilefgaa.Sg (Sig)
open Go.Proofs.Ytjehccemilefgaa.Tm (Tm Store Wf isPl isPl_iff)
theorem two_w {P : Program} {ops : Array Oper} {Q : Exit → Act → World → Prop} {S : World → Prop} {i j : Nat} {oi oj : Oper} {fuel : Nat} {listed : Array Bool} {a : Act} {w : World} (hi : ops[i]? = some oi) (hj : ops[j]? = some oj) (hr : Region.ready .any ops listed = [i, j])
    (hwi : Region.wanted oi (yielded ops a.tmps) = true) (hwj : Region.wanted oj (yielded ops a.tmps) = true)
    (h1 : ∀ K' : Act → World → Prop, Shut (∀ a w, S w → (S w → wpAnyH P .any ops Q S fuel (listed.setIfInBounds i true) a w) → K' a w) → Oper.wp P oi a w K' Q)
    (h2 : ∀ K' : Act → World → Prop, Shut (∀ a w, S w → (S w → wpAnyH P .any ops Q S fuel (listed.setIfInBounds j true) a w) → K' a w) → Oper.wp P oj a w K' Q) :
    wpAnyH P .any ops Q S (fuel + 1) listed a w :=
  wpAnyH_ready hr (by simp) (AllReadyH.cons hi (fun K' hK => by rw [if_pos hwi]; exact h1 K' hK) (AllReadyH.cons hj (fun K' hK => by rw [if_pos hwj]; exact h2 K' hK) AllReadyH.nil))
set_option maxRecDepth 100000 in
theorem setP_put2 {w : World} {b : Nat} {o : List PI} (h : SetP w b o) {x y : Int} (hz : WfP (x, y)) (ho : o.length ≤ 1000000) :
    ∃ w', (Instr.mapUpdate 81 (.map (some b)) (.agg #[.int .i64 x, .int .i64 y]) (.agg #[])).run Try.prog w = .ok () w' ∧ SetP w' b (addP o (x, y)) ∧ w.grownBy w' (some b) := setP_put h hz ho
/-- two maps of the call's own, one pair in each -/
def CutM (W1 : World) (p : PI) (u v : Value) (wx : World) : Prop := ∃ cb lb, u = .map (some cb) ∧ v = .map (some lb) ∧ cb ≠ lb ∧ W1.heap.size ≤ cb ∧ W1.heap.size ≤ lb ∧ SetP wx cb [p] ∧ SetP wx lb [p] ∧ Q W1 wx
theorem cell_ne_map {w : World} {a : Addr} {v : Value} {b : Nat} {es : Array MapEntry} {cl : Nat} (h : w.cell? a = some v) (hb : w.heap[b]? = some (.map es cl)) : a.block ≠ b := fun e => by
  unfold World.cell? at h
  rw [e, hb] at h
  cases h
theorem row_ne_map {w : World} {base n : Nat} {e : TypeId} {size : Nat} {v : Value} {xs : List Value} {b : Nat} {es : Array MapEntry} {cl : Nat} (h : w.ownsRow base e size v n xs) (hb : w.heap[b]? = some (.map es cl)) : some b ≠ v.ownBlock := by
  obtain ⟨_, ⟨rfl, _⟩ | ⟨g, c, cur, rfl, _, hh, _⟩⟩ := h
  · intro h; cases h
  · intro h
    have h2 : some b = some g := h
    injection h2 with h2
    rw [h2, hh] at hb
    cases hb
theorem row_ne_iter {w : World} {base n : Nat} {e : TypeId} {size : Nat} {v : Value} {xs : List Value} {b : Nat} {o : Obj} (h : w.ownsRow base e size v n xs) (hb : w.heap[b]? = some o) (ho : ∀ cs t fr, o ≠ .cells cs t fr) : some b ≠ v.ownBlock := by
  obtain ⟨_, ⟨rfl, _⟩ | ⟨g, c, cur, rfl, _, hh, _⟩⟩ := h
  · intro h; cases h
  · intro h
    have h2 : some b = some g := h
    injection h2 with h2
    rw [h2, hh] at hb
    injection hb with hb
    exact ho _ _ _ hb.symm
theorem rds_map {w w' : World} {A : Option Addr} {cs : List Value} {b : Nat} {es : Array MapEntry} {cl : Nat} (h : Rds w w.heap.size A cs) (gr : w.grownBy w' (some b)) (hb : w.heap[b]? = some (.map es cl)) : Rds w' w'.heap.size A cs := fun h0 => by
  obtain ⟨ad, e, hlt, hc⟩ := h h0
  have hne : ad.block ≠ b := by
    have h1 := hc 0 _ (List.getElem?_eq_getElem h0)
    have := cell_ne_map h1 hb
    rwa [add_block] at this
  refine ⟨ad, e, Nat.lt_of_lt_of_le hlt gr.size, fun j v hv => ?_⟩
  rw [← hc j v hv]
  have hbk := gr.block ad.block hlt (fun e' => hne (by injection e'))
  unfold World.cell?
  rw [add_block, hbk]
structure AW (W1 wr : World) (cb : Nat) (C : List PI) (u v : Value) (a c : List PI) : Prop where
  q : Q W1 wr
  hc : W1.heap.size ≤ cb
  come : SetP wr cb C
  ou : wr.ownsRow W1.heap.size 46 2 u a.length (cellsQ a)
  ov : wr.ownsRow W1.heap.size 46 2 v c.length (cellsQ c)
  ap1 : Ap u v
  ap2 : Ap v u
section
variable {W1 wr wr' : World} {cb : Nat} {C : List PI} {u v : Value} {a c : List PI}
theorem AW.more (h : AW W1 wr cb C u v a c) (q : Q wr wr') : AW W1 wr' cb C u v a c :=
  ⟨h.q.trans q, h.hc, h.come.q q, row_kept h.ou q (Nat.le_refl _), row_kept h.ov q (Nat.le_refl _), h.ap1, h.ap2⟩
theorem AW.grow {b : Nat} {es : Array MapEntry} {cl : Nat} (h : AW W1 wr cb C u v a c) (g : wr.grownBy wr' (some b)) (hb : wr.heap[b]? = some (.map es cl)) (hw : W1.heap.size ≤ b) (hne : cb ≠ b) : AW W1 wr' cb C u v a c :=
  ⟨grown_q g h.q hw, h.hc, h.come.grown g (fun e => hne (by injection e)), h.ou.kept g (by
    cases ho : u.ownBlock with
    | none => exact .inl rfl
    | some k => exact .inr (fun e => row_ne_map h.ou hb (by rw [ho]; exact e.symm))), h.ov.kept g (by
    cases ho : v.ownBlock with
    | none => exact .inl rfl
    | some k => exact .inr (fun e => row_ne_map h.ov hb (by rw [ho]; exact e.symm))), h.ap1, h.ap2⟩
theorem AW.iter {b : Nat} {o : Obj} (h : AW W1 wr cb C u v a c) (g : wr.grownBy wr' (some b)) (hb : wr.heap[b]? = some o) (ho : ∀ cs t fr, o ≠ .cells cs t fr) (hw : W1.heap.size ≤ b) (hne : cb ≠ b) : AW W1 wr' cb C u v a c :=
  ⟨grown_q g h.q hw, h.hc, h.come.grown g (fun e => hne (by injection e)), h.ou.kept g (by
    cases hk : u.ownBlock with
    | none => exact .inl rfl
    | some k => exact .inr (fun e => row_ne_iter h.ou hb ho (by rw [hk]; exact e.symm))), h.ov.kept g (by
    cases hk : v.ownBlock with
    | none => exact .inl rfl
    | some k => exact .inr (fun e => row_ne_iter h.ov hb ho (by rw [hk]; exact e.symm))), h.ap1, h.ap2⟩
theorem AW.came {C' : List PI} (h : AW W1 wr cb C u v a c) (g : wr.grownBy wr' (some cb)) (hs : SetP wr' cb C') : AW W1 wr' cb C' u v a c := by
  obtain ⟨es, cl, hb⟩ := h.come.isMap
  exact ⟨grown_q g h.q h.hc, h.hc, hs, h.ou.kept g (by
    cases ho : u.ownBlock with
    | none => exact .inl rfl
    | some k => exact .inr (fun e => row_ne_map h.ou hb (by rw [ho]; exact e.symm))), h.ov.kept g (by
    cases ho : v.ownBlock with
    | none => exact .inl rfl
    | some k => exact .inr (fun e => row_ne_map h.ov hb (by rw [ho]; exact e.symm))), h.ap1, h.ap2⟩
theorem AW.swap (h : AW W1 wr cb C u v a c) : AW W1 wr cb C v u c a := ⟨h.q, h.hc, h.come, h.ov, h.ou, h.ap2, h.ap1⟩
theorem AW.push {u' : Value} {z : PI} (h : AW W1 wr cb C u v a c) (own : wr'.ownsRow W1.heap.size 46 2 u' (a.length + 1) (cellsQ a ++ [.int .i64 z.1, .int .i64 z.2])) (gr : wr.grownBy wr' u.ownBlock) (hor : u'.ownBlock = u.ownBlock ∨ u'.ownBlock = some wr.heap.size) : AW W1 wr' cb C u' v (a ++ [z]) c := by
  obtain ⟨es, cl, hb⟩ := h.come.isMap
  refine ⟨Below.grown h.q gr h.q.size (fun k e => (h.ou.lt k e).1), h.hc, h.come.grown gr (row_ne_map h.ou hb), by rw [List.length_append, cellsQ_append]; exact own, h.ov.kept gr h.ap2, ?_, ap_new (fun g e => (h.ov.lt g e).2) hor (Nat.le_refl _) h.ap2⟩
  rcases hor with e | e
  · unfold Ap; rw [e]; exact h.ap1
  · refine .inr ?_
    rw [e]
    intro he
    have := (h.ov.lt _ he.symm).2
    omega
end
def addN (C ps : List PI) : List PI := (addF C ps).drop C.length
theorem addF_snoc : ∀ (ps C : List PI) (q : PI), addF C (ps ++ [q]) = addP (addF C ps) q
  | [], C, q => by
    show addF C [q] = addP C q
    unfold addF addF addP
    by_cases h : q ∈ C
    · rw [if_pos h]
    · rw [if_neg h]
  | p :: ps, C, q => by
    rw [List.cons_append, addF, addF]
    exact addF_snoc ps _ q
theorem addF_split (C ps : List PI) : addF C ps = C ++ addN C ps := by
  unfold addN
  have h : (addF C ps).take C.length = C := by
    apply List.ext_getElem?
    intro i
    rw [List.getElem?_take]
    split
    · rename_i hi; rw [addF_get hi]
    · rename_i hi; rw [List.getElem?_eq_none (by omega)]
  conv => lhs; rw [← List.take_append_drop C.length (addF C ps), h]
theorem addN_snoc (C ps : List PI) (q : PI) : addN C (ps ++ [q]) = if q ∈ addF C ps then addN C ps else addN C ps ++ [q] := by
  have hl := addF_ge ps C
  unfold addN
  rw [addF_snoc]
  unfold addP
  split
  · rfl
  · rw [List.drop_append_of_le_length hl]
theorem addN_mem {C ps : List PI} (hn : C.Nodup) {u : PI} : u ∈ addN C ps ↔ u ∈ addF C ps ∧ u ∉ C := by
  have h1 := addF_nodup (ps := ps) hn
  have h2 := addF_split C ps
  rw [h2] at h1
  obtain ⟨_, _, h4⟩ := List.nodup_append.1 h1
  constructor
  · intro h
    exact ⟨by rw [h2]; exact List.mem_append_right _ h, fun hc => h4 u hc u h rfl⟩
  · rintro ⟨h, hc⟩
    rw [h2] at h
    rcases List.mem_append.1 h with h | h
    · exact absurd h hc
    · exact h
theorem addN_len (C ps : List PI) : (addF C ps).length = C.length + (addN C ps).length := by
  conv => lhs; rw [addF_split C ps, List.length_append]
theorem wf_place {a : Int} {n : Nat} (h : isPl a n = true) (hn : n ≤ 1000000) : Wf a := by
  obtain ⟨p, q⟩ := (isPl_iff _ _).1 h
  unfold Wf; omega
theorem q_of_grown {w w' : World} (g : w.grownBy w' none) : Q w w' := ⟨g.os, g.tape, g.output, g.size, fun k hk => g.block k hk (by simp)⟩
/-- behind the switch: the rows of answers, one of them with one more -/
def CutK (W1 we : World) (cb : Nat) (C : List PI) (u0 v0 : Value) (a c : List PI) (kd : Int) (z : PI) (u v : Value) (wx : World) : Prop :=
  ∃ u1 v1 row, u1 = u ∧ v1 = v ∧ AW W1 wx cb C u1 v1 (if kd = 2 then a ++ [z] else a) (if kd = 3 then c ++ [z] else c) ∧ we.grownBy wx row ∧ (row = none ∨ row = u0.ownBlock ∨ row = v0.ownBlock)
def mapSize (w : World) (b : Nat) : Nat := match w.heap[b]? with | some (.map es _) => es.size | _ => 0
theorem SetP.mapSize {w : World} {b : Nat} {o : List PI} (h : SetP w b o) : mapSize w b = o.length := by
  obtain ⟨D, ⟨es, cl, h1, h2, h3, rfl⟩, hs, _⟩ := h
  unfold St.mapSize
  rw [h1]
  rw [Maps.size_eq, length_read] at hs
  exact hs
def leftP (left : Lit → Bool) (z : PI) : Prop := WfP z ∧ left (keyL z) = true
theorem leftP_strike {left : Lit → Bool} {z u : PI} (hz : WfP z) : leftP (fun k => left k && !k.sameKey (keyL z)) u ↔ leftP left u ∧ u ≠ z := by
  unfold leftP
  constructor
  · rintro ⟨h1, h2⟩
    rw [Bool.and_eq_true, key_same h1 hz, Bool.not_eq_true', decide_eq_false_iff_not] at h2
    exact ⟨⟨h1, h2.1⟩, h2.2⟩
  · rintro ⟨⟨h1, h2⟩, h3⟩
    refine ⟨h1, ?_⟩
    rw [Bool.and_eq_true, key_same h1 hz, Bool.not_eq_true', decide_eq_false_iff_not]
    exact ⟨h2, h3⟩
theorem ranges_q {w w' : World} {b r n : Nat} {D : DataW Unit} {left : Lit → Bool} {cnt : Nat} (h : w.ranges Try.prog 46 unitElem b r n D left cnt) (q : Q w w') : w'.ranges Try.prog 46 unitElem b r n D left cnt := h.kept (q_grown q) (by simp) (by simp)
theorem ranges_iter {w : World} {b r n : Nat} {D : DataW Unit} {left : Lit → Bool} {cnt : Nat} (h : w.ranges Try.prog 46 unitElem b r n D left cnt) : ∃ o, w.heap[r]? = some o ∧ (∀ cs t fr, o ≠ .cells cs t fr) ∧ (∀ es cl, o ≠ .map es cl) := by
  obtain ⟨es, clock, since, seen, c0, _, _, _, _, hr, _⟩ := h
  exact ⟨_, hr, fun _ _ _ e => (by cases e), fun _ _ e => (by cases e)⟩
theorem ranges_map {w : World} {b r n : Nat} {D : DataW Unit} {left : Lit → Bool} {cnt : Nat} (h : w.ranges Try.prog 46 unitElem b r n D left cnt) : ∃ es cl, w.heap[b]? = some (.map es cl) := by
  obtain ⟨es, clock, since, seen, c0, hb, _⟩ := h
  exact ⟨_, _, hb⟩
end Go.Proofs.Ytjehccemilefgaa.St
