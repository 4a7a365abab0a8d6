/-
  What the proofs lean on, part 14 of 20.
-/
import Derived.Test.YtnifmfdlocgefaaGreatPd
import Derived.Test.YtnifmfdlocgefaaGreatPi
import Derived.Test.YtnifmfdlocgefaaGreatPk
import Derived.Test.YtnifmfdlocgefaaGreatPm
namespace Go.Proofs.YtnifmfdlocgefaaGreat.Cy
open Go Go.RowKit Go.Lib Go.Sort Go.Shelf Kit Uf Ig Tr
open Go.Proofs.YtnifmfdlocgefaaGreat.Hs (Keys Ints KeysP IntsP BoxT)
/-- an operation that is no defer statement, in a round -/
theorem op_in_round {l n : Nat} {P : Program} {o : Oper} {a : Act} {w : World} {K : Act → World → Prop} {Q : Exit → Act → World → Prop} (hd : ∀ c, o.op ≠ Op.defer c) (h : Oper.wp P o a w K Q) : Oper.wpIn (Fence.wide.inRound l) n P o a w K Q := by
  refine ⟨fun _ _ => trivial, ?_⟩
  rw [Oper.semAt_plain _ _ _ hd]
  unfold Oper.wp at h
  generalize (execOp a.eval o).run P w = r at h ⊢
  cases r with
  | ok nx w' =>
    cases nx <;> first
      | exact h
      | exact ⟨(fun e => Bool.noConfusion e), CallsIn.inRound l (callsIn_wide.2 h)⟩
      | exact ⟨(fun e => Bool.noConfusion e), fun c cs _ => let ⟨v, w2, r, s⟩ := h c cs; ⟨v, w2, r, stepsIn_wide.2 s⟩⟩
      | exact h.elim
  | halt h' w' => cases h' <;> exact h
theorem any_in_round {l n : Nat} {P : Program} {md : Region.Mode} {ops : Array Oper} {Q : Exit → Act → World → Prop} (hd : ∀ (i : Nat) (o : Oper), ops[i]? = some o → ∀ c, o.op ≠ Op.defer c) (hq : ¬ LetsOut Q) :
    ∀ (fuel : Nat) (listed : Array Bool) (a : Act) (w : World), wpAny P md ops Q fuel listed a w → wpAnyIn (Fence.wide.inRound l) n P md ops Q fuel listed a w
  | 0, _, _, _, h => h
  | fuel + 1, listed, a, w, h => ⟨h.1, fun i hi => by
    have h2 := h.2 i hi
    unfold wpOp at h2
    unfold wpOpIn
    cases e : ops[i]? with
    | none => rw [e] at h2; exact any_in_round hd hq fuel _ _ _ h2
    | some o =>
      rw [e] at h2
      simp only at h2 ⊢
      by_cases c : Region.wanted o (yielded ops a.tmps) = true
      · rw [if_pos c] at h2 ⊢
        rcases h2 with h2 | h2
        · exact op_in_round (hd i o e) (Oper.wp_mono (fun a w hh => any_in_round hd hq fuel _ a w hh) h2)
        · exact absurd h2.2 hq
      · rw [if_neg c] at h2 ⊢
        exact ⟨fun _ _ => trivial, any_in_round hd hq fuel _ _ _ h2⟩⟩
theorem round_begin_t {l n z : Nat} {P : Program} {ops : Array Oper} {Q : Exit → Act → World → Prop} {S : World → Prop} {id : Nat} {a : Act} {w : World} (hq : ¬ LetsOut Q) (hd : (ops.toList.all fun o => match o.op with | .defer _ => false | _ => true) = true) (hm : P.follows .mixedOrders = true) (hS : S w.drew)
    (h : S w.drew → wpAnyT P .any ops Q S z ops.size (Array.replicate ops.size false) a w.drew) : (Code.region id ops true).wpIn (Fence.wide.inRound l) n P Q a w := by
  refine wpIn_region_any hm (any_in_round (fun i o hi c e => ?_) hq _ _ _ _ (wpAny_of_till _ _ _ _ (h hS)))
  have hmem : o ∈ ops.toList := by
    obtain ⟨hlt, e2⟩ := Array.getElem?_eq_some_iff.1 hi
    rw [← e2]; simp
  have := List.all_eq_true.1 hd o hmem
  rw [e] at this
  cases this
theorem op_append13 {P : Program} {o : Oper} {a : Act} {w w' : World} {K : Act → World → Prop} {Q : Exit → Act → World → Prop} (s x : Operand) (t : TypeId) (ho : o.op = .call { callee := .builtin .append, args := #[s, x], argTypes := #[t, t] }) {v y v' : Value} (hs : a.eval s = v) (hx : a.eval x = y)
    (hr : (Builtin.append_ #[t, t] o.type #[v, y]).run P w = .ok v' w') (h : K (a.put o.dst v') w') : Oper.wp P o a w K Q := by
  unfold Oper.wp execOp
  simp only [ho, resolve, invoke, builtin, Sem.run_bind, Sem.run_pure, Result.andThen_ok, List.map_toArray, List.map_cons, List.map_nil, hs, hx, hr]
  exact h
theorem grown_of_q {A B : World} (q : Q A B) : A.grownBy B none := ⟨q.os, q.tape, q.output, q.size, fun k hk _ => q.block k hk⟩
def NaI (w0 : World) (base gO B5 n : Nat) (pre : List (Nat × Nat)) (M : Nat → Prop) (U : World) : Prop :=
  ∃ v : Nat → Value, (∀ b, M b ↔ (b = gO ∨ ∃ i, i < n ∧ (v i).ownBlock = some b)) ∧ U.cell? ⟨B5, 0, none⟩ = some (.slice (some ⟨gO, 0, none⟩) n n) ∧
    (∀ i, i < n → U.cell? ⟨gO, i, none⟩ = some (v i) ∧ U.frozen? ⟨gO, i, none⟩ = false ∧ U.ownsRow base 3 1 (v i) (toOf pre i).length (cellsI (toOf pre i))) ∧ (∀ i j r, i < n → j < n → (v i).ownBlock = some r → (v j).ownBlock = some r → i = j) ∧ base ≤ U.heap.size ∧ Q w0 U
theorem NaI.mind {w0 : World} {base gO B5 n : Nat} (hg : gO < base) (h5 : B5 < base) (hw : w0.heap.size ≤ base) : Mind base (NaI w0 base gO B5 n) where
  own := by
    rintro pre M W W' row ⟨v, hM, b5, hc, hd, hs, q⟩ g hr
    refine ⟨v, hM, cell_grown g b5 (fun r e => by have := (hr r e).1; show r ≠ B5; omega), fun i hi => ?_, hd, Nat.le_trans hs g.size, q_grown q g (fun r e => by have := (hr r e).1; omega)⟩
    obtain ⟨c1, c2, c3⟩ := hc i hi
    refine ⟨cell_grown g c1 (fun r e => by have := (hr r e).1; show r ≠ gO; omega), (frozen_grown g c1 (fun r e => by have := (hr r e).1; show r ≠ gO; omega)).trans c2, c3.kept g ?_⟩
    cases row with
    | none => exact Decidable.byCases (fun e => .inl e) (fun e => .inr e)
    | some r => exact .inr (fun e => (hr r rfl).2 ((hM r).2 (.inr ⟨i, hi, e⟩)))
  lt := by
    rintro pre M W ⟨v, hM, b5, hc, hd, hs, q⟩ k hk
    rcases (hM k).1 hk with rfl | ⟨i, hi, e⟩
    · omega
    · exact ((hc i hi).2.2.lt k e).2
theorem NaI.add {w0 : World} {base gO B5 n : Nat} {pre : List (Nat × Nat)} {x : Nat × Nat} {M : Nat → Prop} {U Ua U' : World} {v : Nat → Value} {v' : Value} (hg : gO < base) (h5 : B5 < base) (h5g : B5 ≠ gO) (hw : w0.heap.size ≤ gO)
    (hM : ∀ b, M b ↔ (b = gO ∨ ∃ i, i < n ∧ (v i).ownBlock = some b)) (b5 : U.cell? ⟨B5, 0, none⟩ = some (.slice (some ⟨gO, 0, none⟩) n n))
    (hc : ∀ i, i < n → U.cell? ⟨gO, i, none⟩ = some (v i) ∧ U.frozen? ⟨gO, i, none⟩ = false ∧ U.ownsRow base 3 1 (v i) (toOf pre i).length (cellsI (toOf pre i))) (hd : ∀ i j r, i < n → j < n → (v i).ownBlock = some r → (v j).ownBlock = some r → i = j) (hs : base ≤ U.heap.size) (q : Q w0 U)
    (hx : x.1 < n) (qa : Q U Ua) (hsa : Ua.heap.size = U.heap.size + 1) (own' : U'.ownsRow base 3 1 v' ((toOf pre x.1).length + 1) (cellsI (toOf pre x.1) ++ [.int .i64 (x.2 : Int)])) (g : Ua.grownBy U' (v x.1).ownBlock) (hat : v'.ownBlock = (v x.1).ownBlock ∨ v'.ownBlock = some Ua.heap.size) :
    ∃ M', NaI w0 base gO B5 n (pre ++ [x]) M' (U'.setCell ⟨gO, x.1, none⟩ v') ∧ Gr M M' U ∧ Fr M U (U'.setCell ⟨gO, x.1, none⟩ v') := by
  have hvb : ∀ i, i < n → ∀ r, (v i).ownBlock = some r → base ≤ r ∧ r < U.heap.size := fun i hi r e => (hc i hi).2.2.lt r e
  have hgn : ∀ r, (v x.1).ownBlock = some r → r ≠ gO ∧ r ≠ B5 := fun r e => by have := (hvb x.1 hx r e).1; omega
  have cells : ∀ i, i < n → U'.cell? ⟨gO, i, none⟩ = some (v i) ∧ U'.frozen? ⟨gO, i, none⟩ = false := fun i hi => by
    obtain ⟨c1, c2, _⟩ := hc i hi
    have hlt := World.block_lt_of_cell? _ _ c1
    have a1 := (qa.cell (p := ⟨gO, i, none⟩) hlt).trans c1
    exact ⟨cell_grown g a1 (fun r e => (hgn r e).1), (frozen_grown g a1 (fun r e => (hgn r e).1)).trans ((qa.frozen (p := ⟨gO, i, none⟩) hlt).trans c2)⟩
  have gs := setCell_grown U' gO x.1 v'
  have c5 := cell_grown gs (cell_grown g ((qa.cell (p := ⟨B5, 0, none⟩) (World.block_lt_of_cell? _ _ b5)).trans b5) (fun r e => (hgn r e).2)) (fun r e => by injection e with e; subst e; exact fun e => h5g e.symm)
  obtain ⟨v2, hv2⟩ : ∃ v2 : Nat → Value, v2 = fun i => if i = x.1 then v' else v i := ⟨_, rfl⟩
  have v2x : v2 x.1 = v' := by rw [hv2]; simp
  have v2o : ∀ i, i ≠ x.1 → v2 i = v i := fun i hi => by rw [hv2]; simp [hi]
  have hown' : ∀ r, v'.ownBlock = some r → (v x.1).ownBlock = some r ∨ r = U.heap.size + 1 := fun r e => by
    rcases hat with h | h
    · exact .inl (h ▸ e)
    · rw [h] at e; injection e with e; exact .inr (by omega)
  refine ⟨fun b => b = gO ∨ ∃ i, i < n ∧ (v2 i).ownBlock = some b, ⟨v2, fun b => Iff.rfl, c5, fun i hi => ?_, fun i j r hi hj e1 e2 => ?_, by have := g.size; have := gs.size; have := qa.size; omega, q_grown (q_grown (q.trans qa) g (fun r e => by have := (hvb x.1 hx r e).1; omega)) gs (fun r e => by injection e with e; subst e; exact hw)⟩, fun k hk => ?_, ?_⟩
  · by_cases e : i = x.1
    · subst e
      rw [v2x, toOf_snoc, if_pos rfl, cellsI_append, List.length_append]
      exact ⟨World.cell?_setCell_same' _ _ _ (by rw [(cells x.1 hx).1]; rfl), by rw [World.frozen?_setCell]; exact (cells x.1 hx).2, own'.kept gs (.inr (fun e => by have := (own'.lt _ e).1; omega))⟩
    · rw [v2o i e, toOf_snoc, if_neg (fun h => e h.symm)]
      refine ⟨(World.cell?_setCell_other (w := U') (a := ⟨gO, x.1, none⟩) (b := ⟨gO, i, none⟩) (v := v') (by intro h; injection h with _ h; exact e h.symm)).trans (cells i hi).1, by rw [World.frozen?_setCell]; exact (cells i hi).2, ?_⟩
      refine (((hc i hi).2.2.kept (grown_of_q qa) ?_).kept g ?_).kept gs (.inr (fun e2 => by have := (hvb i hi _ e2).1; omega))
      · exact Decidable.byCases (fun e => .inl e) (fun e => .inr e)
      · cases hb : (v i).ownBlock with
        | none => exact .inl rfl
        | some r => exact .inr (fun e2 => e (hd i x.1 r hi hx hb (e2 ▸ rfl)))
  · by_cases a1 : i = x.1
    · by_cases a2 : j = x.1
      · omega
      · rw [a1, v2x] at e1
        rw [v2o j a2] at e2
        rcases hown' r e1 with h | h
        · have := hd x.1 j r hx hj h e2; omega
        · have := (hvb j hj r e2).2; omega
    · by_cases a2 : j = x.1
      · rw [a2, v2x] at e2
        rw [v2o i a1] at e1
        rcases hown' r e2 with h | h
        · have := hd i x.1 r hi hx e1 h; omega
        · have := (hvb i hi r e1).2; omega
      · rw [v2o i a1] at e1
        rw [v2o j a2] at e2
        exact hd i j r hi hj e1 e2
  · rcases hk with rfl | ⟨i, hi, e⟩
    · exact .inl ((hM _).2 (.inl rfl))
    · by_cases a1 : i = x.1
      · rw [a1, v2x] at e
        rcases hown' k e with h | h
        · exact .inl ((hM k).2 (.inr ⟨x.1, hx, h⟩))
        · exact .inr (by omega)
      · rw [v2o i a1] at e
        exact .inl ((hM k).2 (.inr ⟨i, hi, e⟩))
  · exact ((Fr.of_q (M := M) qa).trans (Gr.refl _ _) (Fr.of_row g (fun r e => (hM r).2 (.inr ⟨x.1, hx, e⟩)))).trans (Gr.refl _ _) (Fr.of_grown gs ((hM gO).2 (.inl rfl)))
theorem made_slices (w : World) (n : Nat) (t : TypeId) {i : Nat} (hi : i < n) : (w.alloc (.cells (madeCells #[.slice none 0 0] n) t)).cell? ⟨w.heap.size, i, none⟩ = some (.slice none 0 0) ∧ (w.alloc (.cells (madeCells #[.slice none 0 0] n) t)).frozen? ⟨w.heap.size, i, none⟩ = false := by
  refine ⟨?_, World.frozen?_alloc_at _ _ _ _ rfl⟩
  rw [cell_of_row _ _ _ _ _ _ (heap_alloc_new w _)]
  simp [madeCells, hi, Nat.mod_one]
theorem rowsInfo13 : (Tryz.prog.info? 24).map (fun i => (i.zero, i.size, i.bytes)) = some (some (.slice none 0 0), 1, 24) := by kernel_rfl
theorem make_slices (n : Nat) (hn : n ≤ 1000000) (u : World) : (Instr.makeSlice 23 (.int .i64 (n : Int)) (.int .i64 (n : Int))).run Tryz.prog u = .ok (.slice (some ⟨u.heap.size, 0, none⟩) n n) (u.alloc (.cells (madeCells #[.slice none 0 0] n) 24)) := by
  obtain ⟨i0, hi, hz0, hz1, hz2⟩ := info_parts rowsInfo13
  have h := run_make (P := Tryz.prog) u 23 24 i0 _ Tryz.underlying23 hi hz0 .i64 .i64 (n : Int) (n : Int) (by omega) (by omega) (by rw [hz2]; omega) (by omega)
  rw [hz1, Nat.mul_one] at h
  exact h
/-- the rows, as they are read -/
def rowsOf (es : List (Nat × Nat)) (n : Nat) : List (List Int) := (List.range n).map fun i => toOf es i
theorem rowsOf_len (es : List (Nat × Nat)) (n : Nat) : (rowsOf es n).length = n := by simp [rowsOf]
theorem NaI.keys {w0 U : World} {base gO B5 n : Nat} {pre : List (Nat × Nat)} {M : Nat → Prop} (h : NaI w0 base gO B5 n pre M U) (hg : gO < U.heap.size) : Keys U U.heap.size (some ⟨gO, 0, none⟩) (rowsOf pre n) := fun _ => by
  obtain ⟨v, hM, b5, hc, hd, hs, q⟩ := h
  refine ⟨_, rfl, hg, fun i k hk => ?_⟩
  have hi : i < n := by have := (List.getElem?_eq_some_iff.1 hk).1; rwa [rowsOf_len] at this
  have ek : k = toOf pre i := by
    unfold rowsOf at hk
    rw [List.getElem?_map, List.getElem?_range hi] at hk
    injection hk with hk
    exact hk.symm
  subst ek
  obtain ⟨c1, _, c3⟩ := hc i hi
  obtain ⟨A, cp, hv, hcp, ho⟩ := own_o c3
  refine ⟨A, cp, hcp, by rw [Hs.add_zero_head, c1, hv], fun h0 => ?_⟩
  obtain ⟨g, rfl, _, hO⟩ := ho (by rw [cellsI_len]; exact h0)
  exact ⟨_, rfl, hO.1, fun j x hx => by rw [Hs.add_zero_head]; exact (hO.2 j _ (by unfold cellsI; rw [List.getElem?_map, hx]; rfl)).1⟩
end Go.Proofs.YtnifmfdlocgefaaGreat.Cy

namespace Go.Proofs.YtnifmfdlocgefaaGreat.Ig
open Go Go.RowKit Kit Tr Uf
open Go.Proofs.YtnifmfdlocgefaaGreat.Hs (Keys Ints KeysP IntsP)
open Go.Proofs.YtnifmfdlocgefaaGreat.Cy (rowsInfo13 cell_grown frozen_grown q_grown)
def nilC : Cells := ⟨[], [], []⟩
section
variable {w W W' : World} {B k : Nat} {v6 v7 v' : Value} {A D E : Option Addr} {k1 k2 k3 : Nat}
end
/-- a box, the rows, as u grows -/
structure MoR (w W : World) (B k m : Nat) (c : Cells) (v6 v7 : Value) (A : Option Addr) (k1 : Nat) (D : Option Addr) (k2 : Nat) (E : Option Addr) (k3 : Nat) : Prop where
  box : Box3 W B (.slice A c.V.length k1) (.slice D c.N.length k2) (.slice E c.M.length k3)
  cr : CR W (fun b => B < b ∧ v6.ownBlock ≠ some b ∧ v7.ownBlock ≠ some b) c A k1 D k2 E k3
  o6 : W.ownsRow (B + 1) 24 1 v6 m (List.replicate m (.slice none 0 0))
  o7 : W.ownsRow (B + 1) 24 1 v7 k (List.replicate k (.slice none 0 0))
  ne : ∀ b, v6.ownBlock = some b → v7.ownBlock ≠ some b
  q : Q w W
section
variable {w W Wa W' : World} {B k m : Nat} {c : Cells} {v6 v7 v' : Value} {A D E : Option Addr} {k1 k2 k3 : Nat}
theorem MoR.next (h : MoR w W B k m c v6 v7 A k1 D k2 E k3) (q : Q W W') : MoR w W' B k m c v6 v7 A k1 D k2 E k3 := ⟨h.box.q q, h.cr.q q, own_q h.o6 q, own_q h.o7 q, h.ne, h.q.trans q⟩
theorem box3_grown {a b d : Value} {row : Option Nat} (h : Box3 W B a b d) (g : W.grownBy W' row) (hr : ∀ r, row = some r → r ≠ B) : Box3 W' B a b d :=
  ⟨cell_grown g h.c0 (fun r e => hr r e), cell_grown g h.c1 (fun r e => hr r e), cell_grown g h.c2 (fun r e => hr r e), (frozen_grown g h.c0 (fun r e => hr r e)).trans h.f0, (frozen_grown g h.c1 (fun r e => hr r e)).trans h.f1, (frozen_grown g h.c2 (fun r e => hr r e)).trans h.f2, Nat.lt_of_lt_of_le h.lt g.size⟩
theorem agree_row {P : Nat → Prop} {row : Option Nat} (g : W.grownBy W' row) (hr : ∀ r, row = some r → ¬ P r) : W.heap.size ≤ W'.heap.size ∧ ∀ p : Addr, P p.block → p.block < W.heap.size → W'.cell? p = W.cell? p :=
  ⟨g.size, fun p hp hl => World.cell?_of_block (g.block p.block hl (fun e => hr _ e.symm hp))⟩
/-- u's box is set anew -/
theorem MoR.set {c' : Cells} {A' D' E' : Option Addr} {l1 l2 l3 : Nat} (hB : w.heap.size ≤ B) (h : MoR w W B k m c v6 v7 A k1 D k2 E k3) (hc : CR W (fun b => B < b ∧ v6.ownBlock ≠ some b ∧ v7.ownBlock ≠ some b) c' A' l1 D' l2 E' l3) :
    MoR w (((W.setCell ⟨B, 0, none⟩ (.slice A' c'.V.length l1)).setCell ⟨B, 1, none⟩ (.slice D' c'.N.length l2)).setCell ⟨B, 2, none⟩ (.slice E' c'.M.length l3)) B k m c' v6 v7 A' l1 D' l2 E' l3 := by
  have gr := set3_grown W B (.slice A' c'.V.length l1) (.slice D' c'.N.length l2) (.slice E' c'.M.length l3)
  exact ⟨h.box.all _ _ _, hc.to (agree_row (P := fun b => B < b ∧ v6.ownBlock ≠ some b ∧ v7.ownBlock ≠ some b) gr (fun r e hp => by injection e with e; have := hp.1; omega)) (fun b hb _ => hb), h.o6.kept gr (.inr (fun e => by have := (h.o6.lt _ e).1; omega)), h.o7.kept gr (.inr (fun e => by have := (h.o7.lt _ e).1; omega)), h.ne, q_grown h.q gr (fun r e => by injection e with e; omega)⟩
/-- the first row of rows grows -/
theorem MoR.six (hB : w.heap.size ≤ B) (h : MoR w W B k m c v6 v7 A k1 D k2 E k3) (qa : Q W Wa) (own' : W'.ownsRow (B + 1) 24 1 v' (m + 1) (List.replicate m (.slice none 0 0) ++ [.slice none 0 0])) (g : Wa.grownBy W' v6.ownBlock) (hat : v'.ownBlock = v6.ownBlock ∨ v'.ownBlock = some Wa.heap.size) :
    MoR w W' B k (m + 1) c v' v7 A k1 D k2 E k3 := by
  have ha := h.next qa
  have hl6 : ∀ r, v6.ownBlock = some r → B + 1 ≤ r ∧ r < W.heap.size := fun r e => h.o6.lt r e
  have hl7 : ∀ r, v7.ownBlock = some r → B + 1 ≤ r ∧ r < W.heap.size := fun r e => h.o7.lt r e
  have hz := qa.size
  refine ⟨box3_grown ha.box g (fun r e => by have := (hl6 r e).1; omega), h.cr.to ⟨Nat.le_trans qa.size g.size, fun p hp hl => ((agree_row (P := fun b => B < b ∧ v6.ownBlock ≠ some b ∧ v7.ownBlock ≠ some b) g (fun r e hp => hp.2.1 e)).2 p hp (by omega)).trans (qa.cell hl)⟩ (fun b hb hl => ⟨hb.1, fun e => ?_, hb.2.2⟩), by rw [List.replicate_succ']; exact own', ha.o7.kept g ?_, fun b e => ?_, q_grown ha.q g (fun r e => by have := (hl6 r e).1; omega)⟩
  · rcases hat with h1 | h1
    · exact hb.2.1 (h1 ▸ e)
    · rw [h1] at e; injection e with e; omega
  · cases e : v7.ownBlock with
    | none => exact .inl rfl
    | some r => exact .inr (fun e2 => h.ne r e2.symm e)
  · rcases hat with h1 | h1
    · exact h.ne b (h1 ▸ e)
    · rw [h1] at e; injection e with e; subst e; exact fun e => by have := (hl7 _ e).2; omega
/-- the second one -/
theorem MoR.seven (hB : w.heap.size ≤ B) (h : MoR w W B k m c v6 v7 A k1 D k2 E k3) (qa : Q W Wa) (own' : W'.ownsRow (B + 1) 24 1 v' (k + 1) (List.replicate k (.slice none 0 0) ++ [.slice none 0 0])) (g : Wa.grownBy W' v7.ownBlock) (hat : v'.ownBlock = v7.ownBlock ∨ v'.ownBlock = some Wa.heap.size) :
    MoR w W' B (k + 1) m c v6 v' A k1 D k2 E k3 := by
  have ha := h.next qa
  have hl6 : ∀ r, v6.ownBlock = some r → B + 1 ≤ r ∧ r < W.heap.size := fun r e => h.o6.lt r e
  have hl7 : ∀ r, v7.ownBlock = some r → B + 1 ≤ r ∧ r < W.heap.size := fun r e => h.o7.lt r e
  have hz := qa.size
  refine ⟨box3_grown ha.box g (fun r e => by have := (hl7 r e).1; omega), h.cr.to ⟨Nat.le_trans qa.size g.size, fun p hp hl => ((agree_row (P := fun b => B < b ∧ v6.ownBlock ≠ some b ∧ v7.ownBlock ≠ some b) g (fun r e hp => hp.2.2 e)).2 p hp (by omega)).trans (qa.cell hl)⟩ (fun b hb hl => ⟨hb.1, hb.2.1, fun e => ?_⟩), ha.o6.kept g ?_, by rw [List.replicate_succ']; exact own', fun b e e2 => ?_, q_grown ha.q g (fun r e => by have := (hl7 r e).1; omega)⟩
  · rcases hat with h1 | h1
    · exact hb.2.2 (h1 ▸ e)
    · rw [h1] at e; injection e with e; omega
  · cases e : v6.ownBlock with
    | none => exact .inl rfl
    | some r => exact .inr (fun e2 => h.ne r e e2.symm)
  · rcases hat with h1 | h1
    · exact h.ne b e (h1 ▸ e2)
    · rw [h1] at e2; injection e2 with e2; subst e2; have := (hl6 _ e).2; omega
end
theorem rows_nil {w : World} {base k : Nat} {v : Value} {K : Nat → Prop} (h : w.ownsRow base 24 1 v k (List.replicate k (.slice none 0 0))) (hK : ∀ b, base ≤ b → K b) : ∃ A c, v = .slice A k c ∧ KeysP w K A (List.replicate k []) := by
  obtain ⟨A, c, rfl, hc, ho⟩ := own_o h
  refine ⟨A, c, rfl, fun h0 => ?_⟩
  obtain ⟨g, rfl, hg, hO⟩ := ho (by simpa using h0)
  refine ⟨_, rfl, hK g hg, hO.1, fun i k2 hk => ?_⟩
  have hi : i < k := by have := (List.getElem?_eq_some_iff.1 hk).1; simpa using this
  have e : k2 = [] := by rw [List.getElem?_replicate, if_pos hi] at hk; simpa using hk.symm
  subst e
  exact ⟨none, 0, Nat.le_refl _, by rw [Tr.add_zero_head]; simpa using (hO.2 i _ (by rw [List.getElem?_replicate, if_pos hi])).1, fun h => by simp at h⟩
def lenOf : Value → Nat
  | .slice _ n _ => n
  | _ => 0
theorem own_less {w : World} {base base' n size : Nat} {e : TypeId} {v : Value} {cs : List Value} (h : w.ownsRow base e size v n cs) (hb : base' ≤ base) : w.ownsRow base' e size v n cs := by
  obtain ⟨h1, h2 | ⟨g, cap, cur, e1, hg, h3⟩⟩ := h
  · exact ⟨h1, .inl h2⟩
  · exact ⟨h1, .inr ⟨g, cap, cur, e1, by omega, h3⟩⟩
/-- a graph of n variables, of which nothing is told -/
def NewPost (n : Nat) (w : World) (e : Ending) (w' : World) : Prop :=
  ∃ A D E Pa Ta k1 k2 k3 kp kt, e = .returned (.agg #[.slice none 0 0, .slice A (moreC nilC n).V.length k1, .slice D (moreC nilC n).N.length k2, .slice E (moreC nilC n).M.length k3, .slice Pa n kp, .slice Ta n kt]) ∧ GRQ w' (fun b => w.heap.size ≤ b) [] (moreC nilC n) (List.replicate n []) (List.replicate n []) none A D E Pa Ta k1 k2 k3 ∧ Q w w'
set_option maxRecDepth 100000 in
set_option maxHeartbeats 4000000 in
theorem refMore12_nil (n : Nat) (w : World) (hn : n ≤ 1000) : Calls Tryz.prog 119 #[.agg #[.slice none 0 0, .slice none 0 0, .slice none 0 0, .slice none 0 0, .slice none 0 0, .slice none 0 0], .int .i64 (n : Int)] w (NewPost n w) := by
  obtain ⟨i0, hi, hz0, hz1, hz2⟩ := info_parts rowsInfo13
  have Hi := Lib.hid hi
  have Hz0 := Lib.hid hz0
  have Hz1 := Lib.hid hz1
  have Hz2 := Lib.hid hz2
  have HB := Lib.hid ((Box6.new w (.slice none 0 0) (.slice none 0 0) (.slice none 0 0) (.slice none 0 0) (.slice none 0 0) (.slice none 0 0) 31).q ((Q.refl _).alloc (Obj.cells #[.slice none 0 0, .slice none 0 0, .slice none 0 0, .slice none 0 0, .slice none 0 0, .slice none 0 0] 31)))
  have X := BoxW.new (w.alloc (Obj.cells #[.slice none 0 0, .slice none 0 0, .slice none 0 0, .slice none 0 0, .slice none 0 0, .slice none 0 0] 31)) (.slice none 0 0) (.slice none 0 0) (.slice none 0 0) (.slice none 0 0) (.slice none 0 0) (.slice none 0 0) 31
  rw [World.size_alloc] at X
  have HX := Lib.hid X
  have HQ0 := Lib.hid (((Q.refl w).alloc (Obj.cells #[.slice none 0 0, .slice none 0 0, .slice none 0 0, .slice none 0 0, .slice none 0 0, .slice none 0 0] 31)).alloc (Obj.cells #[.slice none 0 0, .slice none 0 0, .slice none 0 0, .slice none 0 0, .slice none 0 0, .slice none 0 0] 31))
  have HZ : Hid (((w.alloc (Obj.cells #[.slice none 0 0, .slice none 0 0, .slice none 0 0, .slice none 0 0, .slice none 0 0, .slice none 0 0] 31)).alloc (Obj.cells #[.slice none 0 0, .slice none 0 0, .slice none 0 0, .slice none 0 0, .slice none 0 0, .slice none 0 0] 31)).heap.size = w.heap.size + 2) := by unfold Hid; simp
  clear hi hz0 hz1 hz2 X
  go_enter Tryz.func119, Tryz.ntmps119
  go_upto_region 1 with fail
  generalize (w.alloc (Obj.cells #[.slice none 0 0, .slice none 0 0, .slice none 0 0, .slice none 0 0, .slice none 0 0, .slice none 0 0] 31)).alloc (Obj.cells #[.slice none 0 0, .slice none 0 0, .slice none 0 0, .slice none 0 0, .slice none 0 0, .slice none 0 0] 31) = W0 at *
  have b0 := HB.out.c0
  have b1 := HB.out.c1
  have b2 := HB.out.c2
  have b3 := HB.out.c3
  have b4 := HB.out.c4
  have b5 := HB.out.c5
  go_upto_region 2 with fail
  have HU := Lib.hid (Box3.new W0 (.slice none 0 0) (.slice none 0 0) (.slice none 0 0) 29)
  have HQ1 := Lib.hid ((Q.refl W0).alloc (Obj.cells #[.slice none 0 0, .slice none 0 0, .slice none 0 0] 29))
  have HZ1 : Hid ((W0.alloc (Obj.cells #[.slice none 0 0, .slice none 0 0, .slice none 0 0] 29)).heap.size = w.heap.size + 3) := by have := HZ.out; unfold Hid; simp; omega
  rw [HZ.out] at HU ⊢
  clear b0 b1 b2 b3 b4 b5
  generalize W0.alloc (Obj.cells #[.slice none 0 0, .slice none 0 0, .slice none 0 0] 29) = W1 at *
  have Ho1 := Lib.hid (own_empty (base := w.heap.size + 3) (e := 24) (size := 1) (by rw [HZ1.out]; exact Nat.le_refl _) (heap_alloc_new W1 (Obj.cells #[] 24)))
  have HQe := Lib.hid ((Q.refl W1).alloc (Obj.cells #[] 24))
  have g4 := (HB.out.q (HQ1.out.trans HQe.out)).c4
  go_upto_region 3 with (at_builtin; refine wpList_append_src _ rfl (.tmp 10) (.tmp 12) _ rfl (w.heap.size + 3) 24 i0 _ 1 24 Tryz.underlying23 Hi.out Hz0.out Hz1.out Hz2.out rfl (by omega) (.slice (some ⟨W1.heap.size, 0, none⟩) 0 0) 0 [] rfl Ho1.out none 0 0 [] rfl rfl (fun h => by simp at h) (by simp) (by unfold maxLen; omega) (by omega) (by have := HZ1.out; simp; omega) ?_; intro v6 w2 own2 gr2 hat2; have O6 := Lib.hid own2; have HQ2 : Hid (Q W1 w2) := Lib.hid (HQe.out.grown gr2 (by simp) (by simp [Value.ownBlock])); clear own2 gr2 hat2 g4)
  have Ho2 := Lib.hid (own_empty (base := w2.heap.size) (e := 24) (size := 1) (Nat.le_refl _) (heap_alloc_new w2 (Obj.cells #[] 24)))
  have HQf := Lib.hid ((Q.refl w2).alloc (Obj.cells #[] 24))
  have g5 := (HB.out.q ((HQ1.out.trans HQ2.out).trans HQf.out)).c5
  go_upto_region 4 with (at_builtin; refine wpList_append_src _ rfl (.tmp 14) (.tmp 16) _ rfl w2.heap.size 24 i0 _ 1 24 Tryz.underlying23 Hi.out Hz0.out Hz1.out Hz2.out rfl (by omega) (.slice (some ⟨w2.heap.size, 0, none⟩) 0 0) 0 [] rfl Ho2.out none 0 0 [] rfl rfl (fun h => by simp at h) (by simp) (by unfold maxLen; omega) (by omega) (by simp) ?_; intro v7 w3 own3 gr3 hat3; have O7 := Lib.hid own3; have HQ3 : Hid (Q w2 w3) := Lib.hid (HQf.out.grown gr3 (by simp) (by simp [Value.ownBlock])); clear own3 gr3 hat3 g5)
  have HS : Hid (w.heap.size + 3 ≤ w2.heap.size) := by have h1 := HZ1.out; have h2 := HQ2.out.size; unfold Hid; omega
  have HM0 : Hid (MoR W0 w3 (w.heap.size + 2) 0 0 (moreC nilC 0) v6 v7 none 0 none 0 none 0) :=
    ⟨HU.out.q (HQ2.out.trans HQ3.out), ⟨fun h => by simp [moreC, nilC, cellsI] at h, fun h => by simp [moreC, nilC, cellsP] at h, fun h => by simp [moreC, nilC, cellsI] at h, Nat.le_refl _, Nat.le_refl _, Nat.le_refl _⟩, own_q O6.out HQ3.out, own_less O7.out HS.out, fun b e e2 => by have h1 := (O6.out.lt b e).2; have h2 := (O7.out.lt b e2).1; omega, HQ1.out.trans (HQ2.out.trans HQ3.out)⟩
  have HsB : Hid (W0.heap.size ≤ w.heap.size + 2) := by have := HZ.out; unfold Hid; omega
  clear Ho1 Ho2 HQe HQf O6 O7 HU
  go_loopw [6, 7] (fun v6 v7 wr => ∃ (k : Nat) (A D E : Option Addr) (k1 k2 k3 : Nat), k ≤ n ∧ Hid (MoR W0 wr (w.heap.size + 2) k k (moreC nilC k) v6 v7 A k1 D k2 E k3)) (fun v6 _ _ => n - lenOf v6)
  case atStart => exact ⟨0, none, none, none, 0, 0, 0, Nat.zero_le _, HM0⟩
  case round =>
    clear HM0 HQ1 HQ2 HQ3 HS
    obtain ⟨k, A, D, E, k1, k2, k3, hk, HM⟩ := hrel
    obtain ⟨A6, c6, rfl, -, -⟩ := own_o HM.out.o6
    obtain ⟨A7, c7, rfl, -, -⟩ := own_o HM.out.o7
    have hl := (moreC_len nilC k).1
    have hlN := (moreC_len nilC k).2.1
    have hlM := (moreC_len nilC k).2.2
    have hVk : (moreC nilC k).V.length = k := by rw [hl]; simp [nilC]
    have HVk := Lib.hid hVk
    have u0 := HM.out.box.c0
    have u1 := HM.out.box.c1
    have u2 := HM.out.box.c2
    have HFew : Hid (Few (moreC nilC k) 1000000) := by
      refine ⟨by omega, ?_, ?_⟩
      · rw [hlN]; simp [nilC]; omega
      · rw [hlM]; simp [nilC]
    clear hl hlN hlM
    by_cases hlt : k < n
    · have d1 : decide (((moreC nilC k).V.length : Int) < (n : Int)) = true := decide_eq_true (by omega)
      have d2 : decide ((moreC nilC k).V.length < n) = true := decide_eq_true (by omega)
      have hl6 : Hid (∀ r, (Value.slice A6 k c6).ownBlock = some r → r < wr.heap.size) := fun r e => (HM.out.o6.lt r e).2
      have hl7 : Hid (∀ r, (Value.slice A7 k c7).ownBlock = some r → r < wr.heap.size) := fun r e => (HM.out.o7.lt r e).2
      have CA := Lib.hid (refAdd5_any (fun b => (w.heap.size + 2 < b ∧ (Value.slice A6 k c6).ownBlock ≠ some b ∧ (Value.slice A7 k c7).ownBlock ≠ some b) ∧ b < wr.heap.size) (moreC nilC k) A D E k1 k2 k3 wr (HM.out.cr.to (agree_q (P := fun b => w.heap.size + 2 < b ∧ (Value.slice A6 k c6).ownBlock ≠ some b ∧ (Value.slice A7 k c7).ownBlock ≠ some b) (Q.refl wr)) (fun b hb hl => ⟨hb, hl⟩)) (fun b hb => hb.2) HFew.out)
      clear hVk HFew
      go_upto_region 6 with (go_at_call 180; refine CA.out.mono ?_; rintro e w4 ⟨A4, l1, D4, l2, E4, l3, rfl, hc4, q4⟩; have HC4 := Lib.hid hc4; have HQ4 := Lib.hid q4; have hb := HM.out.box.q q4; have x0 := hb.c0; have x1 := hb.c1; have x2 := hb.c2; have y0 := hb.f0; have y1 := hb.f1; have y2 := hb.f2; clear hb hc4 q4 u0 u1 u2)
      have HN : Hid (growC (moreC nilC k) ((moreC nilC k).V.length : Int) = moreC nilC (k + 1)) := by unfold Hid; rw [HVk.out]; simp [moreC, nilC]
      have hms := MoR.set HsB.out (HM.out.next HQ4.out) (HC4.out.to (agree_q (P := fun b => ((w.heap.size + 2 < b ∧ (Value.slice A6 k c6).ownBlock ≠ some b ∧ (Value.slice A7 k c7).ownBlock ≠ some b) ∧ b < wr.heap.size) ∨ wr.heap.size ≤ b) (Q.refl w4)) (fun b hb _ => hb.elim (fun h => h.1) (fun h => ⟨by have := HM.out.box.lt; omega, fun e => by have := hl6.out b e; omega, fun e => by have := hl7.out b e; omega⟩)))
      have HMs := Lib.hid hms
      rw [HN.out] at HMs ⊢
      clear hms x0 x1 x2 y0 y1 y2 HC4 HQ4 HN
      generalize ((w4.setCell ⟨w.heap.size + 2, 0, none⟩ (.slice A4 (moreC nilC (k + 1)).V.length l1)).setCell ⟨w.heap.size + 2, 1, none⟩ (.slice D4 (moreC nilC (k + 1)).N.length l2)).setCell ⟨w.heap.size + 2, 2, none⟩ (.slice E4 (moreC nilC (k + 1)).M.length l3) = w5 at *
      have hz5 : Hid (w.heap.size + 3 ≤ w5.heap.size) := by have := HMs.out.box.lt; unfold Hid; omega
      go_upto_region 7 with (at_builtin; refine wpList_append_src _ rfl (.tmp 25) (.tmp 26) _ rfl (w.heap.size + 3) 24 i0 _ 1 24 Tryz.underlying23 Hi.out Hz0.out Hz1.out Hz2.out rfl (by omega) (Value.slice A6 k c6) k (List.replicate k (.slice none 0 0)) rfl (HMs.out.o6.alloc _) (some ⟨w5.heap.size, 0, none⟩) 1 1 [.slice none 0 0] rfl rfl (src_block (cs := #[.slice none 0 0]) (heap_alloc_new w5 (Obj.cells #[.slice none 0 0] 24))) (by simp [Value.oneCell']) (by unfold maxLen; omega) (by omega) (by have := hz5.out; simp; omega) ?_; intro v6' w6 own6 gr6 hat6; have HM6 := Lib.hid (HMs.out.six HsB.out ((Q.refl w5).alloc (Obj.cells #[.slice none 0 0] 24)) own6 gr6 hat6); clear own6 gr6 hat6)
      have hz6 : Hid (w.heap.size + 3 ≤ w6.heap.size) := by have := HM6.out.box.lt; unfold Hid; omega
      go_wp2_with (at_builtin; refine wpList_append_src _ rfl (.tmp 28) (.tmp 29) _ rfl (w.heap.size + 3) 24 i0 _ 1 24 Tryz.underlying23 Hi.out Hz0.out Hz1.out Hz2.out rfl (by omega) (Value.slice A7 k c7) k (List.replicate k (.slice none 0 0)) rfl (HM6.out.o7.alloc _) (some ⟨w6.heap.size, 0, none⟩) 1 1 [.slice none 0 0] rfl rfl (src_block (cs := #[.slice none 0 0]) (heap_alloc_new w6 (Obj.cells #[.slice none 0 0] 24))) (by simp [Value.oneCell']) (by unfold maxLen; omega) (by omega) (by have := hz6.out; simp; omega) ?_; intro v7' w7 own7 gr7 hat7; have HM7 := Lib.hid (HM6.out.seven HsB.out ((Q.refl w6).alloc (Obj.cells #[.slice none 0 0] 24)) own7 gr7 hat7); clear own7 gr7 hat7)
      obtain ⟨A8, c8, hv8, -, -⟩ := own_o HM7.out.o6
      go_roundw
      case rel => exact ⟨k + 1, A4, D4, E4, l1, l2, l3, by omega, HM7⟩
      case measure => rw [hv8]; simp only [lenOf]; omega
    · obtain rfl : k = n := by omega
      have d1 : decide (((moreC nilC k).V.length : Int) < (k : Int)) = false := decide_eq_false (by omega)
      have d2 : decide ((moreC nilC k).V.length < k) = false := decide_eq_false (by omega)
      have hbr := HB.out.q HM.out.q
      have b0 := hbr.c0
      have hxr := HX.out.q HM.out.q
      have HXr := Lib.hid hxr
      have x0 := hxr.c.c0
      have x1 := hxr.c.c1
      have x2 := hxr.c.c2
      have x3 := hxr.c.c3
      have x4 := hxr.c.c4
      have x5 := hxr.c.c5
      have f0 := hxr.f0
      have f1 := hxr.f1
      have f2 := hxr.f2
      have f3 := hxr.f3
      have f4 := hxr.f4
      have f5 := hxr.f5
      clear hVk hbr hxr HFew
      go_wp2_with fail
      have hz := HXr.out.set (.slice none 0 0) (.slice A (moreC nilC k).V.length k1) (.slice D (moreC nilC k).N.length k2) (.slice E (moreC nilC k).M.length k3) (.slice A6 k c6) (.slice A7 k c7)
      have y0 := hz.c.c0
      have y1 := hz.c.c1
      have y2 := hz.c.c2
      have y3 := hz.c.c3
      have y4 := hz.c.c4
      have y5 := hz.c.c5
      have gr := set6_grown wr (w.heap.size + 1) (.slice none 0 0) (.slice A (moreC nilC k).V.length k1) (.slice D (moreC nilC k).N.length k2) (.slice E (moreC nilC k).M.length k3) (.slice A6 k c6) (.slice A7 k c7)
      obtain ⟨A6', c6', e6, hk6⟩ := rows_nil (K := fun b => w.heap.size + 2 < b) HM.out.o6 (fun b hb => by omega)
      obtain ⟨A7', c7', e7, hk7⟩ := rows_nil (K := fun b => w.heap.size + 2 < b) HM.out.o7 (fun b hb => by omega)
      injection e6 with e6 _ _
      injection e7 with e7 _ _
      subst e6 e7
      have ag := agree_row (P := fun b => w.heap.size + 2 < b) gr (fun r e hp => by injection e with e; omega)
      have agc := agree_row (P := fun b => w.heap.size + 2 < b ∧ (Value.slice A6 k c6).ownBlock ≠ some b ∧ (Value.slice A7 k c7).ownBlock ≠ some b) gr (fun r e hp => by injection e with e; have := hp.1; omega)
      have hcr := HM.out.cr.to (K' := fun b => w.heap.size ≤ b) agc (fun b hb _ => by have := hb.1; omega)
      refine bodyPost_ret (v := .agg #[.slice none 0 0, .slice A (moreC nilC k).V.length k1, .slice D (moreC nilC k).N.length k2, .slice E (moreC nilC k).M.length k3, .slice A6 k c6, .slice A7 k c7]) (by simp [results, Tryz.f119, go_sem, y0, y1, y2, y3, y4, y5]) rfl
        ⟨A, D, E, A6, A7, k1, k2, k3, c6, c7, rfl, ⟨fun h => by simp [cellsI] at h, hcr.v, hcr.n, hcr.m, hk6.toP ag.1 ag.2 (fun b hb _ => by omega), hk7.toP ag.1 ag.2 (fun b hb _ => by omega), hcr.lv, hcr.ln, hcr.lm⟩, grown_q gr (HQ0.out.trans HM.out.q) (Nat.le_succ _)⟩
theorem refNew12_nil (n : Nat) (w : World) (hn : n ≤ 1000) : Calls Tryz.prog 56 #[.slice none 0 0, .int .i64 (n : Int)] w (NewPost n w) := by
  have HX := Lib.hid (BoxW.new w (.slice none 0 0) (.slice none 0 0) (.slice none 0 0) (.slice none 0 0) (.slice none 0 0) (.slice none 0 0) 31)
  have HQ0 := Lib.hid ((Q.refl w).alloc (Obj.cells #[.slice none 0 0, .slice none 0 0, .slice none 0 0, .slice none 0 0, .slice none 0 0, .slice none 0 0] 31))
  have HZ : Hid ((w.alloc (Obj.cells #[.slice none 0 0, .slice none 0 0, .slice none 0 0, .slice none 0 0, .slice none 0 0, .slice none 0 0] 31)).heap.size = w.heap.size + 1) := by unfold Hid; simp
  have CM := Lib.hid (fun U => refMore12_nil n U hn)
  go_enter Tryz.func56, Tryz.ntmps56
  go_upto_region 1 with fail
  generalize w.alloc (Obj.cells #[.slice none 0 0, .slice none 0 0, .slice none 0 0, .slice none 0 0, .slice none 0 0, .slice none 0 0] 31) = W0 at *
  go_wp2_with (go_at_call 119; refine (CM.out W0).mono ?_; rintro e w1 ⟨A, D, E, Pa, Ta, k1, k2, k3, kp, kt, rfl, hG, q1⟩; have HG := Lib.hid hG; have HQ1 := Lib.hid q1; have hx := HX.out.q q1; have x0 := hx.c.c0; have x1 := hx.c.c1; have x2 := hx.c.c2; have x3 := hx.c.c3; have x4 := hx.c.c4; have x5 := hx.c.c5; have f0 := hx.f0; have f1 := hx.f1; have f2 := hx.f2; have f3 := hx.f3; have f4 := hx.f4; have f5 := hx.f5; have HXr := Lib.hid hx; clear hx hG q1)
  have hz := HXr.out.set (.slice none 0 0) (.slice A (moreC nilC n).V.length k1) (.slice D (moreC nilC n).N.length k2) (.slice E (moreC nilC n).M.length k3) (.slice Pa n kp) (.slice Ta n kt)
  have y0 := hz.c.c0
  have y1 := hz.c.c1
  have y2 := hz.c.c2
  have y3 := hz.c.c3
  have y4 := hz.c.c4
  have y5 := hz.c.c5
  have gr := set6_grown w1 w.heap.size (.slice none 0 0) (.slice A (moreC nilC n).V.length k1) (.slice D (moreC nilC n).N.length k2) (.slice E (moreC nilC n).M.length k3) (.slice Pa n kp) (.slice Ta n kt)
  have ag := agree_row (P := fun b => W0.heap.size ≤ b) gr (fun r e hp => by injection e with e; have := HZ.out; omega)
  refine bodyPost_ret (v := .agg #[.slice none 0 0, .slice A (moreC nilC n).V.length k1, .slice D (moreC nilC n).N.length k2, .slice E (moreC nilC n).M.length k3, .slice Pa n kp, .slice Ta n kt]) (by simp [results, Tryz.f56, go_sem, y0, y1, y2, y3, y4, y5]) rfl
    ⟨A, D, E, Pa, Ta, k1, k2, k3, kp, kt, rfl, HG.out.to ag (fun b hb _ => by have := HZ.out; omega), grown_q gr (HQ0.out.trans HQ1.out) (Nat.le_refl _)⟩
end Go.Proofs.YtnifmfdlocgefaaGreat.Ig

namespace Go.Proofs.YtnifmfdlocgefaaGreat.Ig
open Go.RowKit Kit Tr Uf
open Go.Proofs.YtnifmfdlocgefaaGreat.Hs (Keys Ints BoxT KeysP IntsP)
open Go.Proofs.YtnifmfdlocgefaaGreat.St (cellsQ pairInfo PI)
/-- Add's answer, as the document has it, something new being told -/
def AddRef (K : Nat → Prop) (R : List Int) (c : Cells) (P T : List (List Int)) (w : World) (e : Ending) (w' : World) : Prop :=
  ∃ F A D E Pa Ta cr k1 k2 k3 kp kt v, e = .returned (.tuple #[gvP R c P T F A D E Pa Ta cr k1 k2 k3 kp kt, v, .bool true]) ∧ GRQ w' (fun b => K b ∨ w.heap.size ≤ b) R c P T F A D E Pa Ta k1 k2 k3 ∧ Q w w'
theorem refLay12_nil (A : Option Addr) (cp : Nat) (id : Int) (w : World) : Calls Tryz.prog 117 #[.slice A 0 cp, .int .i64 id] w fun e w' => ∃ A2 c2, e = .returned (.tuple #[.slice A2 1 c2, .bool true]) ∧ 1 ≤ c2 ∧ IntsP w' (fun b => w.heap.size ≤ b) A2 [id] ∧ Q w w' := by
  obtain ⟨i0, hi, hz0, hz1, hz2⟩ := info_parts intInfo
  have Hi := Lib.hid hi
  have Hz0 := Lib.hid hz0
  have Hz1 := Lib.hid hz1
  have Hz2 := Lib.hid hz2
  have hs : ∀ u, (Instr.slice 24 (.slice A 0 cp) (some (.int .i64 0)) none none).run Tryz.prog u = .ok (.slice (Hs.cutAt A cp 0) 0 cp) u := fun u => by simpa using Hs.slice_l A 0 cp 0 (Nat.le_refl _) u
  clear hi hz0 hz1 hz2
  go_enter Tryz.func117, Tryz.ntmps117
  go_wp2_with fail
  go_loopw [6, 7] (fun o k wr => o = .slice none 0 0 ∧ k = .int .i64 0 ∧ w = wr) (fun _ _ _ => 0)
  case atStart => exact ⟨rfl, rfl, rfl⟩
  case round =>
    obtain ⟨rfl, rfl, rfl⟩ := hrel
    have Ho := Lib.hid (World.ownsRow_nil (w.alloc (Obj.cells #[.int .i64 id] 3)) w.heap.size 3 1)
    have HQa := Lib.hid ((Q.refl w).alloc (Obj.cells #[.int .i64 id] 3))
    go_wp2_with (first
      | (at_builtin; refine wpList_append_src _ rfl (.tmp 42) (.tmp 44) _ rfl w.heap.size 3 i0 _ 1 8 Tryz.underlying24 Hi.out Hz0.out Hz1.out Hz2.out rfl (by omega) (.slice none 0 0) 0 [] rfl Ho.out (some ⟨w.heap.size, 0, none⟩) 1 1 [.int .i64 id] rfl rfl (src_block (cs := #[.int .i64 id]) (heap_alloc_new w (Obj.cells #[.int .i64 id] 3))) (by simp [Value.oneCell']) (by unfold maxLen; omega) (by omega) (by simp) ?_; intro v1 w1 own1 gr1 _; have HO1 := Lib.hid own1; have HQ1 : Hid (Q w w1) := Lib.hid (HQa.out.grown gr1 HQa.out.size (fun b hb => by simp [Value.ownBlock] at hb)); clear own1 gr1)
      | (at_builtin; refine wpList_append_src _ rfl (.tmp 46) (.tmp 49) _ rfl w.heap.size 3 i0 _ 1 8 Tryz.underlying24 Hi.out Hz0.out Hz1.out Hz2.out rfl (by omega) v1 (0 + 1) ([] ++ [.int .i64 id]) rfl HO1.out (Hs.cutAt A cp 0) 0 cp [] rfl rfl (fun h => by simp at h) (by simp) (by unfold maxLen; omega) (by omega) HQ1.out.size ?_; intro v2 w2 own2 gr2 _; have HO2 := Lib.hid own2; have HQ2 : Hid (Q w w2) := Lib.hid (HQ1.out.grown gr2 HQ1.out.size (fun b hb => (HO1.out.lt b hb).1)); clear own2 gr2))
    go_ret2
    obtain ⟨A2, c2, rfl, hc2, ho2⟩ := own_o HO2.out
    refine ⟨A2, c2, rfl, hc2, fun _ => ?_, HQ2.out⟩
    obtain ⟨g, rfl, hg, hO⟩ := ho2 (by simp)
    exact ⟨_, rfl, hg, hO.1, fun i x hx => by rw [Tr.add_zero_head]; match i, hx with | 0, hx => exact (by simpa using hx) ▸ (hO.2 0 (.int .i64 id) rfl).1⟩

set_option maxRecDepth 100000 in
set_option maxHeartbeats 8000000 in
theorem refAdd12_1 (K : Nat → Prop) (R : List Int) (c : Cells) (P T : List (List Int)) (A S F Av D E Pa Ta : Option Addr) (ca ms d cr k1 k2 k3 kp kt : Nat) (ks : List (List Int)) (px py rx ry : Int) (v u : Nat) (row : List Int) (w : World) (hk : Keys w w.heap.size A ks) (hl : ks.length ≤ maxLen) (hs : ∀ k ∈ ks, k.length ≤ maxLen)
    (hG : GRQ w K R c P T F Av D E Pa Ta k1 k2 k3) (hKw : ∀ b, K b → b < w.heap.size) (hlv : c.V.length ≤ 1000000) (hPn : P.length = c.V.length) (hTn : T.length = c.V.length) (sP : ∀ k ∈ P, k.length ≤ 1000000) (sT : ∀ k ∈ T, k.length ≤ 1000000) (hC : Cl R c.V) (hrow : row.length ≤ 1000000)
    (hx : repV ks c.V px = rx) (hy : repV ks c.V py = ry) (hv : numV ks c.V.length rx = (v : Int)) (hu : numV ks c.V.length ry = (u : Int)) (hvl : v < c.V.length) (hul : u < c.V.length) (hvu : v ≠ u) (hless : lessB R (u : Int) (v : Int) = true)
    (hlay : ∀ (A' : Option Addr) (c' : Nat) (U : World), Ints U U.heap.size A' (rowG T v) → (rowG T v).length ≤ c' → Calls Tryz.prog 117 #[.slice A' (rowG T v).length c', .int .i64 ry] U fun e w' => ∃ A2 c2, e = .returned (.tuple #[.slice A2 row.length c2, .bool true]) ∧ row.length ≤ c2 ∧ IntsP w' (fun b => U.heap.size ≤ b) A2 row ∧ Q U w') :
    Calls Tryz.prog 55 #[.agg #[.slice A ks.length ca, .slice S ms d], .agg #[.slice F R.length cr, .slice Av c.V.length k1, .slice D c.N.length k2, .slice E c.M.length k3, .slice Pa P.length kp, .slice Ta T.length kt], .agg #[.int .i64 px, .int .i64 py]] w (AddRef K R c P (T.set v row) w) := by
  have q0 := ((((Q.refl w).alloc (Obj.cells #[.slice A ks.length ca, .slice S ms d] 26)).alloc (Obj.cells #[.slice F R.length cr, .slice Av c.V.length k1, .slice D c.N.length k2, .slice E c.M.length k3, .slice Pa P.length kp, .slice Ta T.length kt] 31)).alloc (Obj.cells #[.int .i64 px, .int .i64 py] 76)).alloc (Obj.cells #[.slice none 0 0, .slice none 0 0, .slice none 0 0, .slice none 0 0, .slice none 0 0, .slice none 0 0] 31)
  have HBa := Lib.hid ((BoxT.new w (.slice A ks.length ca) (.slice S ms d) 26).q ((((Q.refl _).alloc (Obj.cells #[.slice F R.length cr, .slice Av c.V.length k1, .slice D c.N.length k2, .slice E c.M.length k3, .slice Pa P.length kp, .slice Ta T.length kt] 31)).alloc (Obj.cells #[.int .i64 px, .int .i64 py] 76)).alloc (Obj.cells #[.slice none 0 0, .slice none 0 0, .slice none 0 0, .slice none 0 0, .slice none 0 0, .slice none 0 0] 31)))
  have X := (Box6.new (w.alloc (Obj.cells #[.slice A ks.length ca, .slice S ms d] 26)) (.slice F R.length cr) (.slice Av c.V.length k1) (.slice D c.N.length k2) (.slice E c.M.length k3) (.slice Pa P.length kp) (.slice Ta T.length kt) 31).q (((Q.refl _).alloc (Obj.cells #[.int .i64 px, .int .i64 py] 76)).alloc (Obj.cells #[.slice none 0 0, .slice none 0 0, .slice none 0 0, .slice none 0 0, .slice none 0 0, .slice none 0 0] 31))
  rw [World.size_alloc] at X
  have HBg := Lib.hid X
  have Y := (BoxT.new ((w.alloc (Obj.cells #[.slice A ks.length ca, .slice S ms d] 26)).alloc (Obj.cells #[.slice F R.length cr, .slice Av c.V.length k1, .slice D c.N.length k2, .slice E c.M.length k3, .slice Pa P.length kp, .slice Ta T.length kt] 31)) (.int .i64 px) (.int .i64 py) 76).q ((Q.refl _).alloc (Obj.cells #[.slice none 0 0, .slice none 0 0, .slice none 0 0, .slice none 0 0, .slice none 0 0, .slice none 0 0] 31))
  rw [World.size_alloc, World.size_alloc] at Y
  have HBp := Lib.hid Y
  have X2 := BoxW.new (((w.alloc (Obj.cells #[.slice A ks.length ca, .slice S ms d] 26)).alloc (Obj.cells #[.slice F R.length cr, .slice Av c.V.length k1, .slice D c.N.length k2, .slice E c.M.length k3, .slice Pa P.length kp, .slice Ta T.length kt] 31)).alloc (Obj.cells #[.int .i64 px, .int .i64 py] 76)) (.slice none 0 0) (.slice none 0 0) (.slice none 0 0) (.slice none 0 0) (.slice none 0 0) (.slice none 0 0) 31
  rw [World.size_alloc, World.size_alloc, World.size_alloc] at X2
  have HX := Lib.hid X2
  have HZ : Hid (((((w.alloc (Obj.cells #[.slice A ks.length ca, .slice S ms d] 26)).alloc (Obj.cells #[.slice F R.length cr, .slice Av c.V.length k1, .slice D c.N.length k2, .slice E c.M.length k3, .slice Pa P.length kp, .slice Ta T.length kt] 31)).alloc (Obj.cells #[.int .i64 px, .int .i64 py] 76)).alloc (Obj.cells #[.slice none 0 0, .slice none 0 0, .slice none 0 0, .slice none 0 0, .slice none 0 0, .slice none 0 0] 31)).heap.size = w.heap.size + 4) := by unfold Hid; simp
  have HQ0 := Lib.hid q0
  have HG := Lib.hid hG
  have HKw := Lib.hid hKw
  have HPn := Lib.hid hPn
  have HTn := Lib.hid hTn
  have HsP := Lib.hid sP
  have HsT := Lib.hid sT
  have Hrow := Lib.hid hrow
  have Hvl := Lib.hid hvl
  have Hul := Lib.hid hul
  have HLay := Lib.hid hlay
  have HLv := Lib.hid hlv
  have CRp : Hid (∀ (id : Int) (U : World), Q w U → Calls Tryz.prog 115 #[.agg #[.slice A ks.length ca, .slice S ms d], .agg #[.slice F R.length cr, .slice Av c.V.length k1, .slice D c.N.length k2, .slice E c.M.length k3, .slice Pa P.length kp, .slice Ta T.length kt], .int .i64 id] U fun e w' => e = .returned (.int .i64 (repV ks c.V id)) ∧ Q U w') := fun id U q => refRep_any R c.V A S Av _ ca ms d _ k1 (.slice F R.length cr) (.slice D c.N.length k2) (.slice E c.M.length k3) (.slice Pa P.length kp) (.slice Ta T.length kt) ks id U rfl ((hk.q (Nat.le_refl _) q).more q.size) hl hs rfl (hG.q q).v.rds hC hlv
  have CN : Hid (∀ (id : Int) (U : World), Q w U → Calls Tryz.prog 104 #[.agg #[.slice A ks.length ca, .slice S ms d], .agg #[.slice F R.length cr, .slice Av c.V.length k1, .slice D c.N.length k2, .slice E c.M.length k3, .slice Pa P.length kp, .slice Ta T.length kt], .int .i64 id] U fun e w' => e = .returned (.int .i64 (numV ks c.V.length id)) ∧ Q U w') := fun id U q => refNumber_any A S Av _ ca ms d _ k1 (.slice F R.length cr) (.slice D c.N.length k2) (.slice E c.M.length k3) (.slice Pa P.length kp) (.slice Ta T.length kt) ks id U rfl ((hk.q (Nat.le_refl _) q).more q.size)
  have CLs : Hid (∀ (a b : Int) (U : World), Q w U → Calls Tryz.prog 110 #[.slice F R.length cr, .int .i64 a, .int .i64 b] U fun e w' => e = .returned (.bool (lessB R a b)) ∧ Q U w') := fun a b U q => (refLess_any R F _ cr a b U rfl (hG.q q).r.rds).mono (by rintro e w' ⟨rfl, rfl⟩; exact ⟨rfl, Q.refl _⟩)
  have CM : Hid (∀ (id x : Int) (less : Bool) (U : World), Q w U → Calls Tryz.prog 116 #[.agg #[.slice A ks.length ca, .slice S ms d], .agg #[.slice F R.length cr, .slice Av c.V.length k1, .slice D c.N.length k2, .slice E c.M.length k3, .slice Pa P.length kp, .slice Ta T.length kt], .int .i64 id, .int .i64 x, .bool less] U fun e w' => e = .returned (.bool (mayV R ks c.V.length id x less)) ∧ Q U w') := fun id x less U q => refMayV_any R A S F Av _ ca ms d _ cr _ k1 (.slice D c.N.length k2) (.slice E c.M.length k3) (.slice Pa P.length kp) (.slice Ta T.length kt) ks id x less U rfl ((hk.q (Nat.le_refl _) q).more q.size) rfl (hG.q q).r.rds
  have CRx := Lib.hid (CRp.out px)
  have CRy := Lib.hid (CRp.out py)
  rw [hx] at CRx
  rw [hy] at CRy
  have CNx := Lib.hid (CN.out rx)
  have CNy := Lib.hid (CN.out ry)
  rw [hv] at CNx
  rw [hu] at CNy
  have CLuv := Lib.hid (CLs.out (u : Int) (v : Int))
  rw [hless] at CLuv
  have hmay : mayV R ks c.V.length ry (v : Int) false = true := by
    unfold mayV
    rw [hu, if_pos (by omega)]
    exact hless
  have CMy := Lib.hid (CM.out ry (v : Int) false)
  rw [hmay] at CMy
  have CWt := Lib.hid (fun (A' : Option Addr) (c' : Nat) (U : World) (q : Q w U) (hd : row.length ≤ c') (hI : IntsP U (fun b => K b ∨ w.heap.size + 4 ≤ b) A' row) => with12P (fun b => K b ∨ w.heap.size + 4 ≤ b) Ta A' T.length kt row.length c' T row v U rfl rfl (by omega) (by omega) hd ((hG.t.q q).toP (Nat.le_refl _) (fun _ _ _ => rfl) (fun b hb _ => .inl hb)) hI)
  have e1 : ((v : Int) == (u : Int)) = false := beq_eq_false_iff_ne.2 (by omega)
  have d1 : decide (0 ≤ (v : Int)) = true := decide_eq_true (by omega)
  have d2 : decide ((u : Int) < 0) = false := decide_eq_false (by omega)
  have j0 : (0 : Int) ≤ (v : Int) := Int.natCast_nonneg _
  have j1 : (0 : Int) ≤ (u : Int) := Int.natCast_nonneg _
  have j2 : (v : Int) < (P.length : Int) := by omega
  have j3 : (v : Int) < (T.length : Int) := by omega
  -- the rows' cells
  obtain ⟨lad, hla, -, hlb, hlc⟩ := hG.t (by omega)
  obtain ⟨sa, sc, hsc, hs0, hsI⟩ := hlc v T[v] (List.getElem?_eq_getElem (by omega))
  obtain ⟨gad, hga, -, hgb, hgc⟩ := hG.p (by omega)
  obtain ⟨ra, rc, hrc, hr0, hrI⟩ := hgc v P[v] (List.getElem?_eq_getElem (by omega))
  obtain ⟨lr, hlr⟩ : ∃ lr, lr = rowG T v := ⟨_, rfl⟩
  obtain ⟨gr, hgr⟩ : ∃ gr, gr = rowG P v := ⟨_, rfl⟩
  have hlr2 : T[v]'(by omega) = lr := by rw [hlr]; unfold rowG; rw [rows_at (by omega)]
  have hgr2 : P[v]'(by omega) = gr := by rw [hgr]; unfold rowG; rw [rows_at (by omega)]
  rw [hlr2] at hs0 hsI hsc
  rw [hgr2] at hr0 hrI hrc
  rw [← hlr] at HLay
  have HSc := Lib.hid hsc
  have HSI := Lib.hid hsI
  have HRI := Lib.hid hrI
  have HGl : Hid (gr.length ≤ 1000000) := by rw [← hgr2]; exact sP _ (List.getElem_mem _)
  have hS1 : (lad.add v).block < w.heap.size := by rw [Tr.add_block]; exact hlb
  have hS2 : (gad.add v).block < w.heap.size := by rw [Tr.add_block]; exact hgb
  have ALL : Hid (∀ U, Q w U → U.cell? (lad.add v) = some (.slice sa lr.length sc) ∧ U.cell? (gad.add v) = some (.slice ra gr.length rc)) := fun U q => ⟨(q.cell hS1).trans hs0, (q.cell hS2).trans hr0⟩
  obtain ⟨i0, hi, hz0, hz1, hz2⟩ := info_parts pairInfo
  have Hi := Lib.hid hi
  have Hz0 := Lib.hid hz0
  have Hz1 := Lib.hid hz1
  have Hz2 := Lib.hid hz2
  have HGlb : gr.length ≤ 1000000 := HGl.out
  clear hi hz0 hz1 hz2 hk hl hs hG hKw hlv hPn hTn sP sT hC hrow hx hy hv hu hvl hul hvu hless hlay q0 X Y X2 hmay hlc hgc hsc hs0 hsI hrc hr0 hrI hlr hgr hlr2 hgr2 hS1 hS2 hlb hgb CN CLs CM
  subst hla hga
  go_enter Tryz.func55, Tryz.ntmps55
  go_upto_region 1 with fail
  generalize (((w.alloc (Obj.cells #[.slice A ks.length ca, .slice S ms d] 26)).alloc (Obj.cells #[.slice F R.length cr, .slice Av c.V.length k1, .slice D c.N.length k2, .slice E c.M.length k3, .slice (some gad) P.length kp, .slice (some lad) T.length kt] 31)).alloc (Obj.cells #[.int .i64 px, .int .i64 py] 76)).alloc (Obj.cells #[.slice none 0 0, .slice none 0 0, .slice none 0 0, .slice none 0 0, .slice none 0 0, .slice none 0 0] 31) = W0 at *
  have p0 := HBp.out.c0
  have p1 := HBp.out.c1
  have a0 := (HBa.out.q (Q.refl W0)).c0
  have a1 := (HBa.out.q (Q.refl W0)).c1
  have g0 := (HBg.out.q (Q.refl W0)).c0
  have g1 := (HBg.out.q (Q.refl W0)).c1
  have g2 := (HBg.out.q (Q.refl W0)).c2
  have g3 := (HBg.out.q (Q.refl W0)).c3
  have g4 := (HBg.out.q (Q.refl W0)).c4
  have g5 := (HBg.out.q (Q.refl W0)).c5
  go_upto_region 2 with (go_at_call 115; refine (CRx.out W0 HQ0.out).mono ?_; rintro e w1 ⟨rfl, q1⟩; have HQ1 := Lib.hid q1; clear q1 p0 p1; clear a0 a1 g0 g1 g2 g3 g4 g5)
  have p0 := (HBp.out.q HQ1.out).c0
  have p1 := (HBp.out.q HQ1.out).c1
  have a0 := (HBa.out.q HQ1.out).c0
  have a1 := (HBa.out.q HQ1.out).c1
  have g0 := (HBg.out.q HQ1.out).c0
  have g1 := (HBg.out.q HQ1.out).c1
  have g2 := (HBg.out.q HQ1.out).c2
  have g3 := (HBg.out.q HQ1.out).c3
  have g4 := (HBg.out.q HQ1.out).c4
  have g5 := (HBg.out.q HQ1.out).c5
  go_upto_region 3 with (go_at_call 115; refine (CRy.out w1 (HQ0.out.trans HQ1.out)).mono ?_; rintro e w2 ⟨rfl, q2⟩; have HQ2 := Lib.hid (HQ1.out.trans q2); clear q2 p0 p1; clear a0 a1 g0 g1 g2 g3 g4 g5)
  have a0 := (HBa.out.q HQ2.out).c0
  have a1 := (HBa.out.q HQ2.out).c1
  have g0 := (HBg.out.q HQ2.out).c0
  have g1 := (HBg.out.q HQ2.out).c1
  have g2 := (HBg.out.q HQ2.out).c2
  have g3 := (HBg.out.q HQ2.out).c3
  have g4 := (HBg.out.q HQ2.out).c4
  have g5 := (HBg.out.q HQ2.out).c5
  go_upto_region 4 with (go_at_call 104; refine (CNx.out w2 (HQ0.out.trans HQ2.out)).mono ?_; rintro e w3 ⟨rfl, q3⟩; have HQ3 := Lib.hid (HQ2.out.trans q3); clear q3; clear a0 a1 g0 g1 g2 g3 g4 g5)
  have a0 := (HBa.out.q HQ3.out).c0
  have a1 := (HBa.out.q HQ3.out).c1
  have g0 := (HBg.out.q HQ3.out).c0
  have g1 := (HBg.out.q HQ3.out).c1
  have g2 := (HBg.out.q HQ3.out).c2
  have g3 := (HBg.out.q HQ3.out).c3
  have g4 := (HBg.out.q HQ3.out).c4
  have g5 := (HBg.out.q HQ3.out).c5
  go_upto_region 5 with (go_at_call 104; refine (CNy.out w3 (HQ0.out.trans HQ3.out)).mono ?_; rintro e w4 ⟨rfl, q4⟩; have HQ4 := Lib.hid (HQ3.out.trans q4); clear q4; clear a0 a1 g0 g1 g2 g3 g4 g5)
  have a0 := (HBa.out.q HQ4.out).c0
  have a1 := (HBa.out.q HQ4.out).c1
  have g0 := (HBg.out.q HQ4.out).c0
  have g1 := (HBg.out.q HQ4.out).c1
  have g2 := (HBg.out.q HQ4.out).c2
  have g3 := (HBg.out.q HQ4.out).c3
  have g4 := (HBg.out.q HQ4.out).c4
  have g5 := (HBg.out.q HQ4.out).c5
  go_upto_region 9 with (go_at_call 110; refine (CLuv.out w4 (HQ0.out.trans HQ4.out)).mono ?_; rintro e w5 ⟨rfl, q5⟩; have HQ5 := Lib.hid (HQ4.out.trans q5); clear q5; clear a0 a1 g0 g1 g2 g3 g4 g5)
  have a0 := (HBa.out.q HQ5.out).c0
  have a1 := (HBa.out.q HQ5.out).c1
  have g0 := (HBg.out.q HQ5.out).c0
  have g1 := (HBg.out.q HQ5.out).c1
  have g2 := (HBg.out.q HQ5.out).c2
  have g3 := (HBg.out.q HQ5.out).c3
  have g4 := (HBg.out.q HQ5.out).c4
  have g5 := (HBg.out.q HQ5.out).c5
  go_upto_region 10 with (go_at_call 116; refine (CMy.out w5 (HQ0.out.trans HQ5.out)).mono ?_; rintro e w6 ⟨rfl, q6⟩; have HQ6 := Lib.hid (HQ5.out.trans q6); clear q6; clear a0 a1 g0 g1 g2 g3 g4 g5)
  have a0 := (HBa.out.q HQ6.out).c0
  have a1 := (HBa.out.q HQ6.out).c1
  have g0 := (HBg.out.q HQ6.out).c0
  have g1 := (HBg.out.q HQ6.out).c1
  have g2 := (HBg.out.q HQ6.out).c2
  have g3 := (HBg.out.q HQ6.out).c3
  have g4 := (HBg.out.q HQ6.out).c4
  have g5 := (HBg.out.q HQ6.out).c5
  obtain ⟨s0, s1⟩ := ALL.out w6 (HQ0.out.trans HQ6.out)
  go_upto_region 13 with (go_at_call 117; refine (HLay.out sa sc w6 ((HSI.out.q (HQ0.out.trans HQ6.out)).ints) HSc.out).mono ?_; rintro e w7 ⟨A7, c7, rfl, hc7, hI7, q7⟩; have HS67 : Hid (w6.heap.size ≤ w7.heap.size) := Lib.hid q7.size; have HC7 := Lib.hid hc7; have HI7 := Lib.hid hI7; have HQ7 := Lib.hid (HQ6.out.trans q7); clear hc7 hI7 q7 s0 s1; clear a0 a1 g0 g1 g2 g3 g4 g5)
  have HQw7 := Lib.hid (HQ0.out.trans HQ7.out)
  have HS7 : Hid (w.heap.size + 4 ≤ w6.heap.size ∧ w6.heap.size ≤ w7.heap.size) := by have h1 := HZ.out; have h2 := HQ6.out.size; exact ⟨by omega, HS67.out⟩
  have ALS : Hid (∀ U, Q w7 U → U.cell? ⟨w.heap.size, 0, none⟩ = some (.slice A ks.length ca) ∧ U.cell? ⟨w.heap.size, 1, none⟩ = some (.slice S ms d) ∧ U.cell? ⟨w.heap.size + 1, 0, none⟩ = some (.slice F R.length cr) ∧ U.cell? ⟨w.heap.size + 1, 1, none⟩ = some (.slice Av c.V.length k1) ∧ U.cell? ⟨w.heap.size + 1, 2, none⟩ = some (.slice D c.N.length k2) ∧ U.cell? ⟨w.heap.size + 1, 3, none⟩ = some (.slice E c.M.length k3) ∧ U.cell? ⟨w.heap.size + 1, 4, none⟩ = some (.slice (some gad) P.length kp) ∧ U.cell? ⟨w.heap.size + 1, 5, none⟩ = some (.slice (some lad) T.length kt) ∧ U.cell? (gad.add v) = some (.slice ra gr.length rc)) := fun U q => by
    have h1 := HBa.out.q (HQ7.out.trans q)
    have h2 := HBg.out.q (HQ7.out.trans q)
    exact ⟨h1.c0, h1.c1, h2.c0, h2.c1, h2.c2, h2.c3, h2.c4, h2.c5, (ALL.out U (HQw7.out.trans q)).2⟩
  have ALG : Hid (∀ U, Q w7 U → U.cell? ⟨w.heap.size + 1, 0, none⟩ = some (.slice F R.length cr) ∧ U.cell? ⟨w.heap.size + 1, 1, none⟩ = some (.slice Av c.V.length k1) ∧ U.cell? ⟨w.heap.size + 1, 2, none⟩ = some (.slice D c.N.length k2) ∧ U.cell? ⟨w.heap.size + 1, 3, none⟩ = some (.slice E c.M.length k3) ∧ U.cell? ⟨w.heap.size + 1, 4, none⟩ = some (.slice (some gad) P.length kp) ∧ U.cell? ⟨w.heap.size + 1, 5, none⟩ = some (.slice (some lad) T.length kt)) := fun U q => by
    have h2 := HBg.out.q (HQ7.out.trans q)
    exact ⟨h2.c0, h2.c1, h2.c2, h2.c3, h2.c4, h2.c5⟩
  clear CRx CRy CNx CNy CLuv CMy HLay
  go_wp2_with fail
  go_loopw [13, 17] (fun ov i wr => ∃ (k : Nat) (cs : List Value), k ≤ gr.length ∧ i = .int .i64 k ∧ Hid (wr.ownsRow w7.heap.size 76 2 ov k cs) ∧ Hid (Q w7 wr)) (fun _ i _ => gr.length - (intOf i).toNat)
  case atStart => exact ⟨0, [], Nat.zero_le _, rfl, Lib.hid (World.ownsRow_nil _ _ _ _), Lib.hid (Q.refl _)⟩
  case round =>
    obtain ⟨k, cs, hkl, rfl, HR, HQr⟩ := hrel
    obtain ⟨ov, hov⟩ : ∃ ov, ov = u13 := ⟨_, rfl⟩
    subst hov
    obtain ⟨z0, z1, z2, z3, z4, z5, z6, z7, z8⟩ := ALS.out wr HQr.out
    by_cases hlt : k < gr.length
    · obtain ⟨rad, hra, hrb, hr0⟩ := (Tr.Rds.int_at (ints_rds (HRI.out.ints)) hlt)
      subst hra
      have hrb2 : (rad.add k).block < w.heap.size := by rw [Tr.add_block]; exact hrb
      have ALR : Hid (∀ U, Q w7 U → U.cell? ⟨w.heap.size, 0, none⟩ = some (.slice A ks.length ca) ∧ U.cell? ⟨w.heap.size, 1, none⟩ = some (.slice S ms d) ∧ U.cell? ⟨w.heap.size + 1, 0, none⟩ = some (.slice F R.length cr) ∧ U.cell? ⟨w.heap.size + 1, 1, none⟩ = some (.slice Av c.V.length k1) ∧ U.cell? ⟨w.heap.size + 1, 2, none⟩ = some (.slice D c.N.length k2) ∧ U.cell? ⟨w.heap.size + 1, 3, none⟩ = some (.slice E c.M.length k3) ∧ U.cell? ⟨w.heap.size + 1, 4, none⟩ = some (.slice (some gad) P.length kp) ∧ U.cell? ⟨w.heap.size + 1, 5, none⟩ = some (.slice (some lad) T.length kt) ∧ U.cell? (gad.add v) = some (.slice (some rad) gr.length rc) ∧ U.cell? (rad.add k) = some (.int .i64 gr[k])) := fun U q => by
        obtain ⟨z0, z1, z2, z3, z4, z5, z6, z7, z8⟩ := ALS.out U q
        exact ⟨z0, z1, z2, z3, z4, z5, z6, z7, z8, ((HQw7.out.trans q).cell hrb2).trans hr0⟩
      have d3 : decide ((k : Int) < (gr.length : Int)) = true := decide_eq_true (by omega)
      have d4 : decide (k < gr.length) = true := decide_eq_true hlt
      have j4 : (k : Int) < (gr.length : Int) := by omega
      have j5 : (0 : Int) ≤ (k : Int) := Int.natCast_nonneg _
      clear hrb hrb2 hr0
      go_upto_region 16 with fail
      clear z0 z1 z2 z3 z4 z5 z6 z7 z8 d3 d4
      refine begin_t (S := fun U => U.cell? ⟨w.heap.size, 0, none⟩ = some (.slice A ks.length ca) ∧ U.cell? ⟨w.heap.size, 1, none⟩ = some (.slice S ms d) ∧ U.cell? ⟨w.heap.size + 1, 0, none⟩ = some (.slice F R.length cr) ∧ U.cell? ⟨w.heap.size + 1, 1, none⟩ = some (.slice Av c.V.length k1) ∧ U.cell? ⟨w.heap.size + 1, 2, none⟩ = some (.slice D c.N.length k2) ∧ U.cell? ⟨w.heap.size + 1, 3, none⟩ = some (.slice E c.M.length k3) ∧ U.cell? ⟨w.heap.size + 1, 4, none⟩ = some (.slice (some gad) P.length kp) ∧ U.cell? ⟨w.heap.size + 1, 5, none⟩ = some (.slice (some lad) T.length kt) ∧ U.cell? (gad.add v) = some (.slice (some rad) gr.length rc) ∧ U.cell? (rad.add k) = some (.int .i64 gr[k])) (z := 16) (by kernel_rfl) ?_ (fun hHeld => ?_)
      · exact ALR.out _ (Q.drew HQr.out)
      refine take_y (i := 0) (d := some 89) (v := ?_) rfl (by kernel_rfl) (by kernel_rfl) (by kernel_rfl) (by kernel_rfl) (fun _ _ _ h => h) rfl (by rfl) ?_ (by assumption) ?_
      rotate_left
      · (intro w; go_simp; (try with_reducible rfl))
      try simp only [Act.put, List.setIfInBounds_toArray, List.set_cons_zero, List.set_cons_succ]
      refine take_t (i := 1) (d := some 90) (v := ?_) rfl (by kernel_rfl) (by kernel_rfl) (by kernel_rfl) (by kernel_rfl) (fun _ _ _ h => h) rfl (by rfl) ?_ (by assumption) ?_
      rotate_left
      · (intro w hSw; (try dsimp only at hSw); go_simp; (try with_reducible rfl))
      try simp only [Act.put, List.setIfInBounds_toArray, List.set_cons_zero, List.set_cons_succ]
      refine take_t (i := 2) (d := some 91) (v := ?_) rfl (by kernel_rfl) (by kernel_rfl) (by kernel_rfl) (by kernel_rfl) (fun _ _ _ h => h) rfl (by rfl) ?_ (by assumption) ?_
      rotate_left
      · (intro w hSw; (try dsimp only at hSw); go_simp; (try with_reducible rfl))
      try simp only [Act.put, List.setIfInBounds_toArray, List.set_cons_zero, List.set_cons_succ]
      refine take_y (i := 3) (d := some 92) (v := ?_) rfl (by kernel_rfl) (by kernel_rfl) (by kernel_rfl) (by kernel_rfl) (fun _ _ _ h => h) rfl (by rfl) ?_ (by assumption) ?_
      rotate_left
      · (intro w; go_simp; (try with_reducible rfl))
      try simp only [Act.put, List.setIfInBounds_toArray, List.set_cons_zero, List.set_cons_succ]
      refine take_t (i := 4) (d := some 93) (v := ?_) rfl (by kernel_rfl) (by kernel_rfl) (by kernel_rfl) (by kernel_rfl) (fun _ _ _ h => h) rfl (by rfl) ?_ (by assumption) ?_
      rotate_left
      · (intro w hSw; (try dsimp only at hSw); go_simp; (try with_reducible rfl))
      try simp only [Act.put, List.setIfInBounds_toArray, List.set_cons_zero, List.set_cons_succ]
      refine take_y (i := 5) (d := some 94) (v := ?_) rfl (by kernel_rfl) (by kernel_rfl) (by kernel_rfl) (by kernel_rfl) (fun _ _ _ h => h) rfl (by rfl) ?_ (by assumption) ?_
      rotate_left
      · (intro w; go_simp; (try with_reducible rfl))
      try simp only [Act.put, List.setIfInBounds_toArray, List.set_cons_zero, List.set_cons_succ]
      refine take_y (i := 6) (d := some 95) (v := ?_) rfl (by kernel_rfl) (by kernel_rfl) (by kernel_rfl) (by kernel_rfl) (fun _ _ _ h => h) rfl (by rfl) ?_ (by assumption) ?_
      rotate_left
      · (intro w; go_simp; (try with_reducible rfl))
      try simp only [Act.put, List.setIfInBounds_toArray, List.set_cons_zero, List.set_cons_succ]
      refine take_t (i := 7) (d := some 96) (v := ?_) rfl (by kernel_rfl) (by kernel_rfl) (by kernel_rfl) (by kernel_rfl) (fun _ _ _ h => h) rfl (by rfl) ?_ (by assumption) ?_
      rotate_left
      · (intro w hSw; (try dsimp only at hSw); go_simp; (try with_reducible rfl))
      try simp only [Act.put, List.setIfInBounds_toArray, List.set_cons_zero, List.set_cons_succ]
      refine take_y (i := 8) (d := some 97) (v := ?_) rfl (by kernel_rfl) (by kernel_rfl) (by kernel_rfl) (by kernel_rfl) (fun _ _ _ h => h) rfl (by rfl) ?_ (by assumption) ?_
      rotate_left
      · (intro w; go_simp; (try with_reducible rfl))
      try simp only [Act.put, List.setIfInBounds_toArray, List.set_cons_zero, List.set_cons_succ]
      refine take_y (i := 9) (d := some 98) (v := ?_) rfl (by kernel_rfl) (by kernel_rfl) (by kernel_rfl) (by kernel_rfl) (fun _ _ _ h => h) rfl (by rfl) ?_ (by assumption) ?_
      rotate_left
      · (intro w; go_simp; (try with_reducible rfl))
      try simp only [Act.put, List.setIfInBounds_toArray, List.set_cons_zero, List.set_cons_succ]
      refine take_t (i := 10) (d := some 99) (v := ?_) rfl (by kernel_rfl) (by kernel_rfl) (by kernel_rfl) (by kernel_rfl) (fun _ _ _ h => h) rfl (by rfl) ?_ (by assumption) ?_
      rotate_left
      · (intro w hSw; (try dsimp only at hSw); go_simp; (try with_reducible rfl))
      try simp only [Act.put, List.setIfInBounds_toArray, List.set_cons_zero, List.set_cons_succ]
      refine take_y (i := 12) (d := some 101) (v := ?_) rfl (by kernel_rfl) (by kernel_rfl) (by kernel_rfl) (by kernel_rfl) (fun _ _ _ h => h) rfl (by rfl) ?_ (by assumption) ?_
      rotate_left
      · (intro w; go_simp; (try with_reducible rfl))
      try simp only [Act.put, List.setIfInBounds_toArray, List.set_cons_zero, List.set_cons_succ]
      refine call_t (i := 11) rfl (by kernel_rfl) (by rfl) (fun K hK => ?_)
      go_simp
      go_at_call 115
      refine (CRp.out gr[k] wr.drew (HQw7.out.trans (Q.drew HQr.out))).mono ?_
      rintro e w8 ⟨rfl, q8⟩
      have HQ8 := Lib.hid ((Q.drew (Q.refl wr)).trans q8)
      clear q8
      have hHeld : ((fun U => U.cell? ⟨w.heap.size, 0, none⟩ = some (.slice A ks.length ca) ∧ U.cell? ⟨w.heap.size, 1, none⟩ = some (.slice S ms d) ∧ U.cell? ⟨w.heap.size + 1, 0, none⟩ = some (.slice F R.length cr) ∧ U.cell? ⟨w.heap.size + 1, 1, none⟩ = some (.slice Av c.V.length k1) ∧ U.cell? ⟨w.heap.size + 1, 2, none⟩ = some (.slice D c.N.length k2) ∧ U.cell? ⟨w.heap.size + 1, 3, none⟩ = some (.slice E c.M.length k3) ∧ U.cell? ⟨w.heap.size + 1, 4, none⟩ = some (.slice (some gad) P.length kp) ∧ U.cell? ⟨w.heap.size + 1, 5, none⟩ = some (.slice (some lad) T.length kt) ∧ U.cell? (gad.add v) = some (.slice (some rad) gr.length rc) ∧ U.cell? (rad.add k) = some (.int .i64 gr[k])) : World → Prop) _ := ALR.out _ (HQr.out.trans HQ8.out)
      refine hK.out _ _ (fun _ => hHeld) ?_
      clear hK K
      try simp only [Act.put, List.setIfInBounds_toArray, List.set_cons_zero, List.set_cons_succ]
      refine take_y (i := 13) (d := some 102) (v := ?_) rfl (by kernel_rfl) (by kernel_rfl) (by kernel_rfl) (by kernel_rfl) (fun _ _ _ h => h) rfl (by rfl) ?_ (by assumption) ?_
      rotate_left
      · (intro w; go_simp; (try with_reducible rfl))
      try simp only [Act.put, List.setIfInBounds_toArray, List.set_cons_zero, List.set_cons_succ]
      refine call_t (i := 14) rfl (by kernel_rfl) (by rfl) (fun K hK => ?_)
      go_simp
      have hHeld : ((fun U => U.cell? ⟨w.heap.size, 0, none⟩ = some (.slice A ks.length ca) ∧ U.cell? ⟨w.heap.size, 1, none⟩ = some (.slice S ms d) ∧ U.cell? ⟨w.heap.size + 1, 0, none⟩ = some (.slice F R.length cr) ∧ U.cell? ⟨w.heap.size + 1, 1, none⟩ = some (.slice Av c.V.length k1) ∧ U.cell? ⟨w.heap.size + 1, 2, none⟩ = some (.slice D c.N.length k2) ∧ U.cell? ⟨w.heap.size + 1, 3, none⟩ = some (.slice E c.M.length k3) ∧ U.cell? ⟨w.heap.size + 1, 4, none⟩ = some (.slice (some gad) P.length kp) ∧ U.cell? ⟨w.heap.size + 1, 5, none⟩ = some (.slice (some lad) T.length kt) ∧ U.cell? (gad.add v) = some (.slice (some rad) gr.length rc) ∧ U.cell? (rad.add k) = some (.int .i64 gr[k])) : World → Prop) _ := ALR.out _ (HQr.out.trans (HQ8.out.alloc (Obj.cells #[.int .i64 (repV ks c.V gr[k]), .int .i64 ry] 76)))
      refine hK.out _ _ (fun _ => hHeld) ?_
      clear hK K
      try simp only [Act.put, List.setIfInBounds_toArray, List.set_cons_zero, List.set_cons_succ]
      refine call_t (i := 15) rfl (by kernel_rfl) (by rfl) (fun K hK => ?_)
      have HOw := Lib.hid (Tr.row_kept HR.out (HQ8.out.alloc (Obj.cells #[.int .i64 (repV ks c.V gr[k]), .int .i64 ry] 76)) (Nat.le_refl _))
      have HQa := Lib.hid ((HQr.out.trans HQ8.out).alloc (Obj.cells #[.int .i64 (repV ks c.V gr[k]), .int .i64 ry] 76))
      refine wp_append_src _ (.tmp 89) (.tmp 103) _ rfl w7.heap.size 76 i0 _ 2 16 Tryz.underlying37 Hi.out Hz0.out Hz1.out Hz2.out rfl (by omega) _ k cs rfl HOw.out (some ⟨w8.heap.size, 0, none⟩) 1 1 [.int .i64 (repV ks c.V gr[k]), .int .i64 ry] rfl rfl (src_block (cs := #[.int .i64 (repV ks c.V gr[k]), .int .i64 ry]) (heap_alloc_new w8 (Obj.cells #[.int .i64 (repV ks c.V gr[k]), .int .i64 ry] 76))) (by simp [Value.oneCell']) (by unfold maxLen; omega) (by omega) HQa.out.size ?_
      intro v9 w9 own9 gr9 at9
      have HQ9 : Hid (Q w7 w9) := Lib.hid (HQa.out.grown gr9 HQa.out.size (fun b hb => (HOw.out.lt b hb).1))
      have Own9 := Lib.hid own9
      clear own9 gr9 at9
      have hHeld : ((fun U => U.cell? ⟨w.heap.size, 0, none⟩ = some (.slice A ks.length ca) ∧ U.cell? ⟨w.heap.size, 1, none⟩ = some (.slice S ms d) ∧ U.cell? ⟨w.heap.size + 1, 0, none⟩ = some (.slice F R.length cr) ∧ U.cell? ⟨w.heap.size + 1, 1, none⟩ = some (.slice Av c.V.length k1) ∧ U.cell? ⟨w.heap.size + 1, 2, none⟩ = some (.slice D c.N.length k2) ∧ U.cell? ⟨w.heap.size + 1, 3, none⟩ = some (.slice E c.M.length k3) ∧ U.cell? ⟨w.heap.size + 1, 4, none⟩ = some (.slice (some gad) P.length kp) ∧ U.cell? ⟨w.heap.size + 1, 5, none⟩ = some (.slice (some lad) T.length kt) ∧ U.cell? (gad.add v) = some (.slice (some rad) gr.length rc) ∧ U.cell? (rad.add k) = some (.int .i64 gr[k])) : World → Prop) _ := ALR.out _ HQ9.out
      refine hK.out _ _ (fun _ => hHeld) ?_
      clear hK K
      try simp only [Act.put]
      refine call_t (i := 16) rfl (by kernel_rfl) (by rfl) (fun K hK => ?_)
      go_simp
      refine hK.out _ _ (fun hz => by cases hz) ?_
      clear hK K
      try simp only [Act.put]
      refine done_t (by kernel_rfl) ?_ _
      go_wp2_with fail
      go_roundw
      case rel => exact ⟨k + 1, _, by omega, by go_num, Own9, HQ9⟩
      case measure => simp [intOf]; omega
    · obtain rfl : k = gr.length := by omega
      have d3 : decide ((gr.length : Int) < (gr.length : Int)) = false := decide_eq_false (by omega)
      have d4 : decide (gr.length < gr.length) = false := decide_eq_false (by omega)
      go_upto_region 17 with fail
      clear z0 z1 z2 z3 z4 z5 z6 z7 z8 d3 d4
      refine begin_t (S := fun U => U.cell? ⟨w.heap.size + 1, 0, none⟩ = some (.slice F R.length cr) ∧ U.cell? ⟨w.heap.size + 1, 1, none⟩ = some (.slice Av c.V.length k1) ∧ U.cell? ⟨w.heap.size + 1, 2, none⟩ = some (.slice D c.N.length k2) ∧ U.cell? ⟨w.heap.size + 1, 3, none⟩ = some (.slice E c.M.length k3) ∧ U.cell? ⟨w.heap.size + 1, 4, none⟩ = some (.slice (some gad) P.length kp) ∧ U.cell? ⟨w.heap.size + 1, 5, none⟩ = some (.slice (some lad) T.length kt)) (z := 13) (by kernel_rfl) ?_ (fun hHeld => ?_)
      · exact ALG.out _ (Q.drew HQr.out)
      refine take_y (i := 0) (d := some 105) (v := ?_) rfl (by kernel_rfl) (by kernel_rfl) (by kernel_rfl) (by kernel_rfl) (fun _ _ _ h => h) rfl (by rfl) ?_ (by assumption) ?_
      rotate_left
      · (intro w; go_simp; (try with_reducible rfl))
      try simp only [Act.put, List.setIfInBounds_toArray, List.set_cons_zero, List.set_cons_succ]
      refine take_t (i := 1) (d := some 106) (v := ?_) rfl (by kernel_rfl) (by kernel_rfl) (by kernel_rfl) (by kernel_rfl) (fun _ _ _ h => h) rfl (by rfl) ?_ (by assumption) ?_
      rotate_left
      · (intro w hSw; (try dsimp only at hSw); go_simp; (try with_reducible rfl))
      try simp only [Act.put, List.setIfInBounds_toArray, List.set_cons_zero, List.set_cons_succ]
      refine take_y (i := 2) (d := some 107) (v := ?_) rfl (by kernel_rfl) (by kernel_rfl) (by kernel_rfl) (by kernel_rfl) (fun _ _ _ h => h) rfl (by rfl) ?_ (by assumption) ?_
      rotate_left
      · (intro w; go_simp; (try with_reducible rfl))
      try simp only [Act.put, List.setIfInBounds_toArray, List.set_cons_zero, List.set_cons_succ]
      refine take_t (i := 3) (d := some 108) (v := ?_) rfl (by kernel_rfl) (by kernel_rfl) (by kernel_rfl) (by kernel_rfl) (fun _ _ _ h => h) rfl (by rfl) ?_ (by assumption) ?_
      rotate_left
      · (intro w hSw; (try dsimp only at hSw); go_simp; (try with_reducible rfl))
      try simp only [Act.put, List.setIfInBounds_toArray, List.set_cons_zero, List.set_cons_succ]
      refine take_y (i := 4) (d := some 109) (v := ?_) rfl (by kernel_rfl) (by kernel_rfl) (by kernel_rfl) (by kernel_rfl) (fun _ _ _ h => h) rfl (by rfl) ?_ (by assumption) ?_
      rotate_left
      · (intro w; go_simp; (try with_reducible rfl))
      try simp only [Act.put, List.setIfInBounds_toArray, List.set_cons_zero, List.set_cons_succ]
      refine take_t (i := 5) (d := some 110) (v := ?_) rfl (by kernel_rfl) (by kernel_rfl) (by kernel_rfl) (by kernel_rfl) (fun _ _ _ h => h) rfl (by rfl) ?_ (by assumption) ?_
      rotate_left
      · (intro w hSw; (try dsimp only at hSw); go_simp; (try with_reducible rfl))
      try simp only [Act.put, List.setIfInBounds_toArray, List.set_cons_zero, List.set_cons_succ]
      refine take_y (i := 6) (d := some 111) (v := ?_) rfl (by kernel_rfl) (by kernel_rfl) (by kernel_rfl) (by kernel_rfl) (fun _ _ _ h => h) rfl (by rfl) ?_ (by assumption) ?_
      rotate_left
      · (intro w; go_simp; (try with_reducible rfl))
      try simp only [Act.put, List.setIfInBounds_toArray, List.set_cons_zero, List.set_cons_succ]
      refine take_t (i := 7) (d := some 112) (v := ?_) rfl (by kernel_rfl) (by kernel_rfl) (by kernel_rfl) (by kernel_rfl) (fun _ _ _ h => h) rfl (by rfl) ?_ (by assumption) ?_
      rotate_left
      · (intro w hSw; (try dsimp only at hSw); go_simp; (try with_reducible rfl))
      try simp only [Act.put, List.setIfInBounds_toArray, List.set_cons_zero, List.set_cons_succ]
      refine take_y (i := 8) (d := some 113) (v := ?_) rfl (by kernel_rfl) (by kernel_rfl) (by kernel_rfl) (by kernel_rfl) (fun _ _ _ h => h) rfl (by rfl) ?_ (by assumption) ?_
      rotate_left
      · (intro w; go_simp; (try with_reducible rfl))
      try simp only [Act.put, List.setIfInBounds_toArray, List.set_cons_zero, List.set_cons_succ]
      refine take_y (i := 9) (d := some 114) (v := ?_) rfl (by kernel_rfl) (by kernel_rfl) (by kernel_rfl) (by kernel_rfl) (fun _ _ _ h => h) rfl (by rfl) ?_ (by assumption) ?_
      rotate_left
      · (intro w; go_simp; (try with_reducible rfl))
      try simp only [Act.put, List.setIfInBounds_toArray, List.set_cons_zero, List.set_cons_succ]
      refine take_y (i := 12) (d := some 117) (v := ?_) rfl (by kernel_rfl) (by kernel_rfl) (by kernel_rfl) (by kernel_rfl) (fun _ _ _ h => h) rfl (by rfl) ?_ (by assumption) ?_
      rotate_left
      · (intro w; go_simp; (try with_reducible rfl))
      try simp only [Act.put, List.setIfInBounds_toArray, List.set_cons_zero, List.set_cons_succ]
      refine call_t (i := 10) rfl (by kernel_rfl) (by rfl) (fun K hK => ?_)
      go_simp
      go_at_call 118
      refine (CWt.out A7 c7 wr.drew (HQw7.out.trans (Q.drew HQr.out)) HC7.out (IntsP.toP (HI7.out.q (Q.drew HQr.out)) (Nat.le_refl _) (fun _ _ _ => rfl) (fun b hb _ => .inr (by have := HS7.out; omega)))).mono ?_
      rintro e w9 ⟨g8, cp8, rfl, hcp8, hk8, q8⟩
      have HK8 := Lib.hid hk8
      have HCp8 := Lib.hid hcp8
      have HQ9 := Lib.hid (HQr.out.trans ((Q.drew (Q.refl wr)).trans q8))
      have HQd9 := Lib.hid q8
      clear hk8 q8 hcp8
      have hHeld : ((fun U => U.cell? ⟨w.heap.size + 1, 0, none⟩ = some (.slice F R.length cr) ∧ U.cell? ⟨w.heap.size + 1, 1, none⟩ = some (.slice Av c.V.length k1) ∧ U.cell? ⟨w.heap.size + 1, 2, none⟩ = some (.slice D c.N.length k2) ∧ U.cell? ⟨w.heap.size + 1, 3, none⟩ = some (.slice E c.M.length k3) ∧ U.cell? ⟨w.heap.size + 1, 4, none⟩ = some (.slice (some gad) P.length kp) ∧ U.cell? ⟨w.heap.size + 1, 5, none⟩ = some (.slice (some lad) T.length kt)) : World → Prop) _ := ALG.out _ HQ9.out
      refine hK.out _ _ (fun _ => hHeld) ?_
      clear hK K
      try simp only [Act.put, List.setIfInBounds_toArray, List.set_cons_zero, List.set_cons_succ]
      refine take_y (i := 11) (d := some 116) (v := ?_) rfl (by kernel_rfl) (by kernel_rfl) (by kernel_rfl) (by kernel_rfl) (fun _ _ _ h => h) rfl (by rfl) ?_ (by assumption) ?_
      rotate_left
      · (intro w; go_simp; (try with_reducible rfl))
      try simp only [Act.put, List.setIfInBounds_toArray, List.set_cons_zero, List.set_cons_succ]
      have hx9 := HX.out.q (HQ7.out.trans HQ9.out)
      have HX9 := Lib.hid hx9
      have x0 := hx9.c.c0
      have x1 := hx9.c.c1
      have x2 := hx9.c.c2
      have x3 := hx9.c.c3
      have x4 := hx9.c.c4
      have x5 := hx9.c.c5
      have xf0 := hx9.f0
      have xf1 := hx9.f1
      have xf2 := hx9.f2
      have xf3 := hx9.f3
      have xf4 := hx9.f4
      have xf5 := hx9.f5
      clear hx9
      refine call_t (i := 13) rfl (by kernel_rfl) (by rfl) (fun K hK => ?_)
      go_simp
      refine hK.out _ _ (fun hz => by cases hz) ?_
      clear hK K
      try simp only [Act.put, List.setIfInBounds_toArray, List.set_cons_zero, List.set_cons_succ]
      clear x0 x1 x2 x3 x4 x5 xf0 xf1 xf2 xf3 xf4 xf5
      refine call_t (i := 14) rfl (by kernel_rfl) (by rfl) (fun K hK => ?_)
      go_simp
      refine hK.out _ _ (fun hz => by cases hz) ?_
      clear hK K
      try simp only [Act.put, List.setIfInBounds_toArray, List.set_cons_zero, List.set_cons_succ]
      refine call_t (i := 15) rfl (by kernel_rfl) (by rfl) (fun K hK => ?_)
      go_simp
      refine hK.out _ _ (fun hz => by cases hz) ?_
      clear hK K
      try simp only [Act.put, List.setIfInBounds_toArray, List.set_cons_zero, List.set_cons_succ]
      refine done_t (by kernel_rfl) ?_ _
      go_wp2_with fail
      have hz := HX9.out.set (.slice F R.length cr) (.slice Av c.V.length k1) (.slice D c.N.length k2) (.slice E c.M.length k3) (.slice (some gad) P.length kp) (.slice (some ⟨g8, 0, none⟩) T.length cp8)
      have y0 := hz.c.c0
      have y1 := hz.c.c1
      have y2 := hz.c.c2
      have y3 := hz.c.c3
      have y4 := hz.c.c4
      have y5 := hz.c.c5
      have gw := set6_grown w9 (w.heap.size + 1 + 1 + 1) (.slice F R.length cr) (.slice Av c.V.length k1) (.slice D c.N.length k2) (.slice E c.M.length k3) (.slice (some gad) P.length kp) (.slice (some ⟨g8, 0, none⟩) T.length cp8)
      have hq9 := HQw7.out.trans HQ9.out
      have ag := agree_row (P := fun b => (K b ∨ w.heap.size + 4 ≤ b) ∨ wr.drew.heap.size ≤ b) gw (fun r e hp => by
        injection e with e
        have h1 := HS7.out
        have h2 := HQr.out.size
        have h3 : wr.drew.heap.size = wr.heap.size := rfl
        rcases hp with (hp | hp) | hp
        · have := HKw.out r hp; omega
        · omega
        · omega)
      have hg9 := (HG.out.q hq9).to (K' := fun b => K b ∨ w.heap.size ≤ b) (agree_row (P := K) gw (fun r e hp => by injection e with e; have := HKw.out r hp; omega)) (fun b hb _ => .inl hb)
      have hk9 := HK8.out.toP (P' := fun b => K b ∨ w.heap.size ≤ b) ag.1 ag.2 (fun b hb _ => by
        have h1 := HS7.out
        have h2 := HQr.out.size
        have h3 : wr.drew.heap.size = wr.heap.size := rfl
        rcases hb with (hb | hb) | hb
        · exact .inl hb
        · exact .inr (by omega)
        · exact .inr (by omega))
      refine bodyPost_ret (v := .tuple #[.agg #[.slice F R.length cr, .slice Av c.V.length k1, .slice D c.N.length k2, .slice E c.M.length k3, .slice (some gad) P.length kp, .slice (some ⟨g8, 0, none⟩) T.length cp8], ov, .bool true]) (by simp [results, Tryz.f55, go_sem, y0, y1, y2, y3, y4, y5]) rfl
        ⟨F, Av, D, E, some gad, some ⟨g8, 0, none⟩, cr, k1, k2, k3, kp, cp8, ov, ?_, ⟨hg9.r, hg9.v, hg9.n, hg9.m, hg9.p, hk9, hg9.lv, hg9.ln, hg9.lm⟩, grown_q gw hq9 (by omega)⟩
      unfold gvP
      rw [show (T.set v row).length = T.length from List.length_set]
end Go.Proofs.YtnifmfdlocgefaaGreat.Ig
