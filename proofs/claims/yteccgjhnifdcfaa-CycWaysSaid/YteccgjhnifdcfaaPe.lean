/-
  What the proofs lean on, part 5 of 11.
-/
import Derived.Test.YteccgjhnifdcfaaPa
import Derived.Test.YteccgjhnifdcfaaPb
import Derived.Test.YteccgjhnifdcfaaPc
import Derived.Test.YteccgjhnifdcfaaPd
import Derived.Laws.StructEq
import Derived.ChangeKeysEq
import Derived.Deep.RegionHeld
import Derived.Laws.EntriesVeiled
import Derived.Deep.RegionHeld3
import Derived.Deep.QuietTactic
import Derived.BigQuiet
namespace Go.Proofs.Yteccgjhnifdcfaa.Kit

section
variable {P : Program} {md : Region.Mode} {ops : Array Oper} {Q : Exit → Act → World → Prop} {S : World → Prop} {z : Nat}
def wpAnyT (P : Program) (md : Region.Mode) (ops : Array Oper) (Q : Exit → Act → World → Prop) (S : World → Prop) (z : Nat) : Nat → Array Bool → Act → World → Prop
  | 0, listed, a, w => Region.ready md ops listed = [] ∧ Q .normal a w
  | fuel + 1, listed, a, w =>
    (Region.ready md ops listed = [] → Q .normal a w) ∧
    ∀ i ∈ Region.ready md ops listed, wpOp P ops Q i (fun a' w' => ((listed.setIfInBounds i true).getD z true = false → S w') ∧ wpAnyT P md ops Q S z fuel (listed.setIfInBounds i true) a' w') a w
theorem wpAny_of_till : ∀ (fuel : Nat) (listed : Array Bool) (a : Act) (w : World), wpAnyT P md ops Q S z fuel listed a w → wpAny P md ops Q fuel listed a w
  | 0, _, _, _, h => h
  | fuel + 1, _, _, _, h => ⟨h.1, fun i hi => wpOp_mono (fun a' w' h' => wpAny_of_till fuel _ a' w' h'.2) (h.2 i hi)⟩
theorem getD_set_ne9 {xs : Array Bool} {i k : Nat} (h : i ≠ k) : (xs.setIfInBounds i true).getD k true = xs.getD k true := by
  simp only [Array.getD_eq_getD_getElem?]
  rw [Array.getElem?_setIfInBounds_ne h]
theorem wpAnyT_first {i : Nat} {oi oz : Oper} {v : Value} (hi : ops[i]? = some oi) (hsel : ∀ (j : Nat) (o : Oper) cs b, ops[j]? = some o → o.op ≠ .select cs b)
    (hQ : ∀ c a w, Q (.panic c) (a.put oi.dst v) w → Q (.panic c) a w) (hoz : ops[z]? = some oz) (hzi : ∃ e ∈ oz.after, Region.binds md e = true ∧ e.on = i) (hne : z ≠ i) :
    ∀ (fuel : Nat) (listed : Array Bool) (a : Act) (w : World),
      (∀ j oj, ops[j]? = some oj → j ≠ i → listed.getD j true = false → (∀ e ∈ oj.after, Region.binds md e = true → e.on ≠ i) → oi.apart ops oj = true) →
      i ∈ Region.ready md ops listed → listed.getD z true = false → YieldsIf P ops S oi v a → S w →
      wpAnyT P md ops Q S z fuel (listed.setIfInBounds i true) (a.put oi.dst v) w → wpAnyT P md ops Q S z (fuel + 1) listed a w := by
  intro fuel
  induction fuel with
  | zero =>
    intro listed a w _ hr _ hy hS H
    refine ⟨fun h => (by rw [h] at hr; cases hr), fun j hj => ?_⟩
    by_cases hji : j = i
    · subst hji; exact hy.wpOp hi hS ⟨fun _ => hS, H⟩
    · have := ready_mono hj hji
      rw [H.1] at this
      cases this
  | succ fuel ih =>
    intro listed a w hfree hr hz hy hS H
    refine ⟨fun h => (by rw [h] at hr; cases hr), fun j hj => ?_⟩
    by_cases hji : j = i
    · subst hji; exact hy.wpOp hi hS ⟨fun _ => hS, H⟩
    · have h1 := H.2 j (ready_mono hj hji)
      obtain ⟨hjun, oj, hoj, hall⟩ := mem_ready.1 hj
      have hnot : ∀ e ∈ oj.after, Region.binds md e = true → e.on ≠ i := fun e he hb heq => by
        have h1 := hall e he hb
        have h0 := (mem_ready.1 hr).1
        rw [heq] at h1
        rcases Nat.lt_or_ge i listed.size with h' | h'
        · simp [h'] at h0 h1; rw [h0] at h1; cases h1
        · simp [Array.getElem?_eq_none h'] at h1
      have hjz : j ≠ z := fun e => by
        subst e
        rw [hoz] at hoj
        injection hoj with hoj
        subst hoj
        obtain ⟨e, he, hb, ho⟩ := hzi
        exact hnot e he hb ho
      have hz2 : (listed.setIfInBounds j true).getD z true = false := by rw [getD_set_ne9 hjz]; exact hz
      have hz3 : ((listed.setIfInBounds i true).setIfInBounds j true).getD z true = false := by rw [getD_set_ne9 hjz, getD_set_ne9 (fun e => hne e.symm)]; exact hz
      have h2 := wpOp_putIf hoj (hfree j oj hoj hji hjun hnot) (fun cs b => hsel i oi cs b hi) (fun cs b => hsel j oj cs b hoj) hQ hy h1
      have hfree' : ∀ k ok, ops[k]? = some ok → k ≠ i → (listed.setIfInBounds j true).getD k true = false →
          (∀ e ∈ ok.after, Region.binds md e = true → e.on ≠ i) → oi.apart ops ok = true := fun k ok hk hki hun hno => by
        refine hfree k ok hk hki ?_ hno
        by_cases hjk : j = k
        · subst hjk; exact hjun
        · rw [getD_set_ne9 hjk] at hun; exact hun
      refine wpOp_mono (fun a' w' h3 => ⟨fun _ => h3.2.1 hz3, ih (listed.setIfInBounds j true) a' w' hfree' (ready_mono hr (Ne.symm hji)) hz2 h3.1 (h3.2.1 hz3) ?_⟩) h2
      rw [Array.setIfInBounds_comm _ _ hji]
      exact h3.2.2
/-- an operation that yields its value in whatever world may be taken first at any time -/
theorem wpAnyT_firstY {i : Nat} {oi : Oper} {v : Value} (hi : ops[i]? = some oi) (hsel : ∀ (j : Nat) (o : Oper) cs b, ops[j]? = some o → o.op ≠ .select cs b)
    (hQ : ∀ c a w, Q (.panic c) (a.put oi.dst v) w → Q (.panic c) a w) (hne : z ≠ i) :
    ∀ (fuel : Nat) (listed : Array Bool) (a : Act) (w : World),
      (∀ j oj, ops[j]? = some oj → j ≠ i → listed.getD j true = false → (∀ e ∈ oj.after, Region.binds md e = true → e.on ≠ i) → oi.apart ops oj = true) →
      i ∈ Region.ready md ops listed → YieldsIf P ops (fun _ => True) oi v a → (listed.getD z true = false → S w) →
      wpAnyT P md ops Q S z fuel (listed.setIfInBounds i true) (a.put oi.dst v) w → wpAnyT P md ops Q S z (fuel + 1) listed a w := by
  intro fuel
  induction fuel with
  | zero =>
    intro listed a w _ hr hy hS H
    refine ⟨fun h => (by rw [h] at hr; cases hr), fun j hj => ?_⟩
    by_cases hji : j = i
    · subst hji; exact hy.wpOp hi trivial ⟨fun h => hS (by rw [getD_set_ne9 (fun e => hne e.symm)] at h; exact h), H⟩
    · have := ready_mono hj hji
      rw [H.1] at this
      cases this
  | succ fuel ih =>
    intro listed a w hfree hr hy hS H
    refine ⟨fun h => (by rw [h] at hr; cases hr), fun j hj => ?_⟩
    by_cases hji : j = i
    · subst hji; exact hy.wpOp hi trivial ⟨fun h => hS (by rw [getD_set_ne9 (fun e => hne e.symm)] at h; exact h), H⟩
    · have h1 := H.2 j (ready_mono hj hji)
      obtain ⟨hjun, oj, hoj, hall⟩ := mem_ready.1 hj
      have hnot : ∀ e ∈ oj.after, Region.binds md e = true → e.on ≠ i := fun e he hb heq => by
        have h1 := hall e he hb
        have h0 := (mem_ready.1 hr).1
        rw [heq] at h1
        rcases Nat.lt_or_ge i listed.size with h' | h'
        · simp [h'] at h0 h1; rw [h0] at h1; cases h1
        · simp [Array.getElem?_eq_none h'] at h1
      have h2 := wpOp_putIf hoj (hfree j oj hoj hji hjun hnot) (fun cs b => hsel i oi cs b hi) (fun cs b => hsel j oj cs b hoj) hQ hy h1
      have hfree' : ∀ k ok, ops[k]? = some ok → k ≠ i → (listed.setIfInBounds j true).getD k true = false →
          (∀ e ∈ ok.after, Region.binds md e = true → e.on ≠ i) → oi.apart ops ok = true := fun k ok hk hki hun hno => by
        refine hfree k ok hk hki ?_ hno
        by_cases hjk : j = k
        · subst hjk; exact hjun
        · rw [getD_set_ne9 hjk] at hun; exact hun
      refine wpOp_mono (fun a' w' h3 => ?_) h2
      have hS' : (listed.setIfInBounds j true).getD z true = false → S w' := fun h => h3.2.1 (by
        rw [Array.setIfInBounds_comm _ _ (Ne.symm hji), getD_set_ne9 (fun e => hne e.symm)]; exact h)
      refine ⟨hS', ih (listed.setIfInBounds j true) a' w' hfree' (ready_mono hr (Ne.symm hji)) h3.1 hS' ?_⟩
      rw [Array.setIfInBounds_comm _ _ hji]
      exact h3.2.2
/-- does z wait for i? -/
def waitsB (md : Region.Mode) (ops : Array Oper) (z i : Nat) : Bool := match ops[z]? with
  | some o => o.after.any fun e => Region.binds md e && (e.on == i)
  | none => false
theorem waits_spec {i : Nat} (h : waitsB md ops z i = true) : ∃ oz, ops[z]? = some oz ∧ ∃ e ∈ oz.after, Region.binds md e = true ∧ e.on = i := by
  unfold waitsB at h
  split at h
  · rename_i o ho
    rw [Array.any_eq_true] at h
    obtain ⟨k, hk, h⟩ := h
    rw [Bool.and_eq_true, beq_iff_eq] at h
    exact ⟨o, ho, _, Array.getElem_mem hk, h⟩
  · cases h
end
section
variable {P : Program} {ops : Array Oper} {Q : Exit → Act → World → Prop} {S : World → Prop} {z : Nat}
theorem take_t {i : Nat} {oi : Oper} {d : Option Tmp} {v : Value} {fuel : Nat} {listed : Array Bool} {a : Act} {w : World} (hi : ops[i]? = some oi)
    (hs : Region.noSelect ops = true) (hf : Region.free .any ops listed i = true) (hr : (Region.ready .any ops listed).contains i = true) (hz : (waitsB .any ops z i && !(z == i) && !listed.getD z true) = true)
    (hQ : ∀ c a w, Q (.panic c) (a.put d v) w → Q (.panic c) a w) (hd : oi.dst = d) (hw : Region.wanted oi (yielded ops a.tmps) = true) (hy : ∀ w, S w → (execOp a.eval oi).run P w = .ok (.value v) w) (hS : S w)
    (h : wpAnyT P .any ops Q S z fuel (listed.setIfInBounds i true) (a.put d v) w) : wpAnyT P .any ops Q S z (fuel + 1) listed a w := by
  subst hd
  rw [Bool.and_eq_true, Bool.and_eq_true] at hz
  obtain ⟨⟨h1, h2⟩, h3⟩ := hz
  obtain ⟨oz, hoz, hzi⟩ := waits_spec h1
  exact wpAnyT_first hi (Region.noSelect_spec hs) hQ hoz hzi (by simpa using h2) fuel listed a w (Region.free_spec hi hf) (by simpa using hr) (by simpa using h3) (.inl ⟨hw, hy⟩) hS h
theorem take_y {i : Nat} {oi : Oper} {d : Option Tmp} {v : Value} {fuel : Nat} {listed : Array Bool} {a : Act} {w : World} (hi : ops[i]? = some oi)
    (hs : Region.noSelect ops = true) (hf : Region.free .any ops listed i = true) (hr : (Region.ready .any ops listed).contains i = true) (hz : (z == i) = false)
    (hQ : ∀ c a w, Q (.panic c) (a.put d v) w → Q (.panic c) a w) (hd : oi.dst = d) (hw : Region.wanted oi (yielded ops a.tmps) = true) (hy : ∀ w, (execOp a.eval oi).run P w = .ok (.value v) w) (hS : S w)
    (h : wpAnyT P .any ops Q S z fuel (listed.setIfInBounds i true) (a.put d v) w) : wpAnyT P .any ops Q S z (fuel + 1) listed a w := by
  subst hd
  exact wpAnyT_firstY hi (Region.noSelect_spec hs) hQ (by simpa using hz) fuel listed a w (Region.free_spec hi hf) (by simpa using hr) (.inl ⟨hw, fun w _ => hy w⟩) (fun _ => hS) h
theorem call_t {i : Nat} {o : Oper} {fuel : Nat} {listed : Array Bool} {a : Act} {w : World} (ho : ops[i]? = some o) (hr : Region.ready .any ops listed = [i])
    (hw : Region.wanted o (yielded ops a.tmps) = true)
    (h : ∀ K' : Act → World → Prop, Shut (∀ a w, ((listed.setIfInBounds i true).getD z true = false → S w) → wpAnyT P .any ops Q S z fuel (listed.setIfInBounds i true) a w → K' a w) → Oper.wp P o a w K' Q) :
    wpAnyT P .any ops Q S z (fuel + 1) listed a w := by
  refine ⟨fun h0 => (by rw [hr] at h0; cases h0), fun j hj => ?_⟩
  rw [hr] at hj
  obtain rfl : j = i := by simpa using hj
  exact wpOp_step ho (fun K' hK => by rw [if_pos hw]; exact h K' fun a w h1 h2 => hK a w ⟨h1, h2⟩)
theorem done_t {listed : Array Bool} {a : Act} {w : World} (hr : Region.ready .any ops listed = []) (h : Q .normal a w) :
    ∀ fuel, wpAnyT P .any ops Q S z fuel listed a w
  | 0 => ⟨hr, h⟩
  | _ + 1 => ⟨fun _ => h, by rw [hr]; simp⟩
theorem begin_t {id : Nat} {a : Act} {w : World} (hm : P.follows .mixedOrders = true) (hS : S w.drew)
    (h : S w.drew → wpAnyT P .any ops Q S z ops.size (Array.replicate ops.size false) a w.drew) : (Code.region id ops true).wp P Q a w :=
  wp_region_any hm (wpAny_of_till _ _ _ _ (h hS))
end
end Go.Proofs.Yteccgjhnifdcfaa.Kit

namespace Go.Proofs.Yteccgjhnifdcfaa.Kit
section
variable {P : Program} {ops : Array Oper} {Q : Exit → Act → World → Prop} {S : World → Prop} {z : Nat}
theorem both_t {i j : Nat} {oi oj : Oper} {fuel : Nat} {listed : Array Bool} {a : Act} {w : World} (hi : ops[i]? = some oi) (hj : ops[j]? = some oj) (hr : Region.ready .any ops listed = [i, j])
    (hwi : Region.wanted oi (yielded ops a.tmps) = true) (hwj : Region.wanted oj (yielded ops a.tmps) = true)
    (h1 : ∀ K' : Act → World → Prop, Shut (∀ a w, ((listed.setIfInBounds i true).getD z true = false → S w) → wpAnyT P .any ops Q S z fuel (listed.setIfInBounds i true) a w → K' a w) → Oper.wp P oi a w K' Q)
    (h2 : ∀ K' : Act → World → Prop, Shut (∀ a w, ((listed.setIfInBounds j true).getD z true = false → S w) → wpAnyT P .any ops Q S z fuel (listed.setIfInBounds j true) a w → K' a w) → Oper.wp P oj a w K' Q) :
    wpAnyT P .any ops Q S z (fuel + 1) listed a w := by
  refine ⟨fun h0 => (by rw [hr] at h0; cases h0), fun k hk => ?_⟩
  rw [hr] at hk
  have hk' : k = i ∨ k = j := by simpa using hk
  rcases hk' with rfl | rfl
  · exact wpOp_step hi (fun K' hK => by rw [if_pos hwi]; exact h1 K' fun a w h1 h2 => hK a w ⟨h1, h2⟩)
  · exact wpOp_step hj (fun K' hK => by rw [if_pos hwj]; exact h2 K' fun a w h1 h2 => hK a w ⟨h1, h2⟩)
end
end Go.Proofs.Yteccgjhnifdcfaa.Kit

namespace Go.Proofs.Yteccgjhnifdcfaa.Ig
open Go.RowKit Kit Tr Uf

/-- cells that can be read, in blocks of a kind -/
structure CR (w : World) (K : Nat → Prop) (c : Cells) (A : Option Addr) (k1 : Nat) (D : Option Addr) (k2 : Nat) (E : Option Addr) (k3 : Nat) : Prop where
  v : RdsP w K A (cellsI c.V)
  n : RdsP w K D (cellsP c.N)
  m : RdsP w K E (cellsI c.M)
  lv : c.V.length ≤ k1
  ln : c.N.length ≤ k2
  lm : c.M.length ≤ k3
theorem CR.rd {w : World} {K : Nat → Prop} {c : Cells} {A D E : Option Addr} {k1 k2 k3 : Nat} (h : CR w K c A k1 D k2 E k3) : Rd w c A k1 D k2 E k3 := ⟨h.v.rds, h.n.rds, h.m.rds, h.lv, h.ln, h.lm⟩
theorem CR.to {w W : World} {K K' : Nat → Prop} {c : Cells} {A D E : Option Addr} {k1 k2 k3 : Nat} (h : CR w K c A k1 D k2 E k3) (ha : w.heap.size ≤ W.heap.size ∧ ∀ p : Addr, K p.block → p.block < w.heap.size → W.cell? p = w.cell? p) (hK : ∀ b, K b → b < w.heap.size → K' b) : CR W K' c A k1 D k2 E k3 :=
  ⟨h.v.toP ha.1 ha.2 hK, h.n.toP ha.1 ha.2 hK, h.m.toP ha.1 ha.2 hK, h.lv, h.ln, h.lm⟩
theorem CR.q {w W : World} {K : Nat → Prop} {c : Cells} {A D E : Option Addr} {k1 k2 k3 : Nat} (h : CR w K c A k1 D k2 E k3) (q : Q w W) : CR W K c A k1 D k2 E k3 := h.to (agree_q q) (fun _ h _ => h)
theorem far_block {W W' : World} {g : Nat} {o : Obj} {row : Option Nat} (hg : W.grownBy W' row) (h : W.heap[g]? = some o) (hne : some g ≠ row) : W'.heap[g]? = some o :=
  (hg.block g (Array.getElem?_eq_some_iff.1 h).1 hne).trans h
theorem own_read3 {w : World} {base : Nat} {v : Value} {n : Nat} {cs : List Value} (h : w.ownsRow base 129 2 v n cs) : ∃ A c n', n' = n ∧ v = .slice A n' c ∧ n' ≤ c := by
  obtain ⟨hl, ⟨rfl, h0⟩ | ⟨g, cap, cur, rfl, hg, hh, hc, _⟩⟩ := h
  · exact ⟨none, 0, 0, h0.symm, rfl, Nat.le_refl _⟩
  · exact ⟨_, cap, n, rfl, rfl, hc⟩
end Go.Proofs.Yteccgjhnifdcfaa.Ig

namespace Go.Proofs.Yteccgjhnifdcfaa.Ig
open Go.RowKit Kit Tr Uf

def GrowPost (K : Nat → Prop) (c : Cells) (w : World) (e : Ending) (w' : World) : Prop :=
  ∃ A k1 D k2 E k3, e = .returned (.agg #[.slice A c.V.length k1, .slice D c.N.length k2, .slice E c.M.length k3]) ∧ CR w' (fun b => K b ∨ w.heap.size ≤ b) c A k1 D k2 E k3 ∧ Q w w'
theorem own_q {w w' : World} {base n size : Nat} {e : TypeId} {v : Value} {cs : List Value} (h : w.ownsRow base e size v n cs) (q : Q w w') : w'.ownsRow base e size v n cs :=
  h.kept (row := none) ⟨q.os, q.tape, q.output, q.size, fun k hk _ => q.block k hk⟩ (Decidable.byCases (fun e => .inl e) (fun e => .inr e))
theorem fin_grow {K : Nat → Prop} {c : Cells} {x : Int} {E : Option Addr} {k3 n5 c5 nn cn B m0 m1 : Nat} {A5 An : Option Addr} {cs cn5 : List Value} {w w5 : World} (y1 y2 y3 : Value) (own : w5.ownsRow m0 3 1 (.slice A5 n5 c5) n5 cs) (hn5 : n5 = c.V.length + 1) (hc5 : n5 ≤ c5) (hcs : cs = cellsI (c.V ++ [x]))
    (ownn : w5.ownsRow m1 129 2 (.slice An nn cn) nn cn5) (hnn : nn = c.N.length + 1) (hcn : nn ≤ cn) (hcn5 : cn5 = cellsP (c.N ++ [((-1 : Int), (0 : Int))])) (hm : B < m0 ∧ B < m1) (hE : RdsP w K E (cellsI c.M)) (hk3 : c.M.length ≤ k3) (hQ : Q w w5) (hB : w.heap.size ≤ B) :
    CR (((w5.setCell ⟨B, 0, none⟩ y1).setCell ⟨B, 1, none⟩ y2).setCell ⟨B, 2, none⟩ y3) (fun b => K b ∨ w.heap.size ≤ b) (growC c x) A5 c5 An cn E k3 ∧ Q w (((w5.setCell ⟨B, 0, none⟩ y1).setCell ⟨B, 1, none⟩ y2).setCell ⟨B, 2, none⟩ y3) := by
  have gr := set3_grown w5 B y1 y2 y3
  have q := grown_q gr hQ hB
  have h1 := own.kept gr (.inr (fun e => by have := (own.lt _ e).1; omega))
  have h2 := ownn.kept gr (.inr (fun e => by have := (ownn.lt _ e).1; omega))
  obtain ⟨A6, c6, e6, _, ho⟩ := own_o h1
  injection e6 with e1 e2 e3
  subst e1 e3
  obtain ⟨A7, c7, e7, _, ho2⟩ := own_o h2
  injection e7 with e1 e2 e3
  subst e1 e3
  rw [hcs] at ho
  rw [hcn5] at ho2
  exact ⟨⟨RdsP.of_owno ho (fun b hb => .inr (by omega)), RdsP.of_owno ho2 (fun b hb => .inr (by omega)), hE.toP (agree_q (P := K) q).1 (agree_q q).2 (fun b hb _ => .inl hb), by simp [growC]; omega, by simp [growC]; omega, hk3⟩, q⟩

set_option maxRecDepth 100000 in
set_option maxHeartbeats 4000000 in
theorem refGrow4_any (K : Nat → Prop) (c : Cells) (x : Int) (A D E : Option Addr) (k1 k2 k3 : Nat) (w : World) (hc : CR w K c A k1 D k2 E k3) (hf : Few c 1000000) :
    Calls Try.prog 81 #[.agg #[.slice A c.V.length k1, .slice D c.N.length k2, .slice E c.M.length k3], .int .i64 x] w (GrowPost K (growC c x) w) := by
  have h := hc.rd
  obtain ⟨W0, hW0, q0, hz0, hB, hX⟩ := boxes w (Value.slice A c.V.length k1) (Value.slice D c.N.length k2) (Value.slice E c.M.length k3) 29
  have HB := Lib.hid hB
  have HX := Lib.hid hX
  have HR := Lib.hid (h.q q0)
  have HZ := Lib.hid hz0
  have HW := Lib.hid hW0
  have HFw := Lib.hid hf
  have HQ0 := Lib.hid q0
  have HE := Lib.hid hc.m
  have Hk3 := Lib.hid h.lm
  clear hc
  obtain ⟨i0, hi0, hz0', hz1, hz2⟩ := info_parts intInfo
  have Hi := Lib.hid hi0
  have Hz0 := Lib.hid hz0'
  have Hz1 := Lib.hid hz1
  have Hz2 := Lib.hid hz2
  obtain ⟨i0', hi0', hz0'', hz1', hz2'⟩ := info_parts noteInfo
  have Hi' := Lib.hid hi0'
  have Hz0' := Lib.hid hz0''
  have Hz1' := Lib.hid hz1'
  have Hz2' := Lib.hid hz2'
  have HQe := Lib.hid ((Q.refl W0).alloc (Obj.cells #[] 129))
  have Hsrc : Hid (Src (W0.alloc (Obj.cells #[] 129)) D (cellsP c.N)) := Lib.hid ((h.q q0).q HQe.out).n.src
  have Ho := Lib.hid (own_empty (base := W0.heap.size) (e := 129) (size := 2) (Nat.le_refl _) (heap_alloc_new W0 (Obj.cells #[] 129)))
  clear hW0 hz0 hB hX h hf hi0 hz0' hz1 hz2 hi0' hz0'' hz1' hz2' q0
  go_enter Try.func81, Try.ntmps81
  go_upto_region 1 with fail
  rw [← HW.out]
  clear HW
  have c1 := (HB.out.q HQe.out).c1
  go_upto_region 2 with (first
    | (at_builtin; refine wpList_append_src _ rfl (.tmp 6) (.tmp 8) _ rfl W0.heap.size 129 i0' _ 2 16 Try.underlying27 Hi'.out Hz0'.out Hz1'.out Hz2'.out rfl (by omega) (.slice (some ⟨W0.heap.size, 0, none⟩) 0 0) 0 [] rfl Ho.out D c.N.length k2 (cellsP c.N) rfl (cellsP_len _) Hsrc.out (cellsP_one _) (by have := HFw.out.2.1; unfold maxLen; omega) (by have := HFw.out.2.1; omega) (by simp) ?_; intro v1 w1 own1 gr1 _; have HO1 := Lib.hid own1; have HQ1 : Hid (Q W0 w1) := Lib.hid (HQe.out.grown gr1 (by simp) (by simp [Value.ownBlock])); clear own1 gr1 c1)
    | (at_builtin; refine wpList_append_src _ rfl (.tmp 9) (.tmp 11) _ rfl W0.heap.size 129 i0' _ 2 16 Try.underlying27 Hi'.out Hz0'.out Hz1'.out Hz2'.out rfl (by omega) v1 (0 + c.N.length) ([] ++ cellsP c.N) rfl (HO1.out.alloc (Obj.cells #[.int .i64 (-1), .int .i64 0] 129)) (some ⟨w1.heap.size, 0, none⟩) 1 1 [.int .i64 (-1), .int .i64 0] rfl rfl (src_block (cs := #[.int .i64 (-1), .int .i64 0]) (heap_alloc_new w1 (Obj.cells #[.int .i64 (-1), .int .i64 0] 129))) (by simp [Value.oneCell']) (by have := HFw.out.2.1; unfold maxLen; omega) (by have := HFw.out.2.1; omega) (HQ1.out.alloc (Obj.cells #[.int .i64 (-1), .int .i64 0] 129)).size ?_; intro v3 w3 own3 gr3 _; have Own3 := Lib.hid own3; have HQa : Hid (Q W0 w3) := Lib.hid ((HQ1.out.alloc (Obj.cells #[.int .i64 (-1), .int .i64 0] 129)).grown gr3 (HQ1.out.alloc (Obj.cells #[.int .i64 (-1), .int .i64 0] 129)).size (fun b hb => (HO1.out.lt b hb).1)); clear own3 gr3))
  obtain ⟨An, cn, nn, hnn, rfl, hcn⟩ := own_read3 Own3.out
  have Hnn : Hid (nn = c.N.length + 1) := by unfold Hid; omega
  rw [← hnn] at Own3
  have Hcn := Lib.hid hcn
  have HQ3 := Lib.hid (HQ0.out.trans HQa.out)
  have HB3 := Lib.hid (HB.out.q HQa.out)
  have HX3 := Lib.hid (HX.out.q HQa.out)
  have HR3 := Lib.hid (HR.out.q HQa.out)
  have HLo : Hid (w.heap.size + 1 < w3.heap.size ∧ w.heap.size + 1 < W0.heap.size) := by have h1 := HZ.out; have h2 := HQa.out.size; unfold Hid; omega
  clear hnn hcn HO1 HQ1 Hsrc Ho HQe HB HX HR
  have ALL : Hid (∀ U, Q w3 U → U.cell? ⟨w.heap.size, 0, none⟩ = some (.slice A c.V.length k1) ∧ U.cell? ⟨w.heap.size, 2, none⟩ = some (.slice E c.M.length k3)) := fun U q => ⟨(HB3.out.q q).c0, (HB3.out.q q).c2⟩
  obtain ⟨s0, s1⟩ := ALL.out w3 (Q.refl _)
  refine begin_t (S := fun w' => w'.cell? ⟨w.heap.size, 0, none⟩ = some (.slice A c.V.length k1) ∧ w'.cell? ⟨w.heap.size, 2, none⟩ = some (.slice E c.M.length k3)) (z := 11) (by kernel_rfl) ?_ (fun hHeld => ?_)
  · exact ALL.out _ (Q.refl w3).drew
  refine take_y (i := 1) (d := some 14) (v := ?_) rfl (by kernel_rfl) (by kernel_rfl) (by kernel_rfl) (by kernel_rfl) (fun _ _ _ h => h) rfl (by rfl) ?_ (by assumption) ?_
  rotate_left
  · (intro w; go_simp; (try with_reducible rfl))
  try simp only [Act.put, List.setIfInBounds_toArray, List.set_cons_zero, List.set_cons_succ]
  refine take_t (i := 2) (d := some 15) (v := ?_) rfl (by kernel_rfl) (by kernel_rfl) (by kernel_rfl) (by kernel_rfl) (fun _ _ _ h => h) rfl (by rfl) ?_ (by assumption) ?_
  rotate_left
  · (intro w hSw; (try dsimp only at hSw); go_simp; (try with_reducible rfl))
  try simp only [Act.put, List.setIfInBounds_toArray, List.set_cons_zero, List.set_cons_succ]
  refine take_y (i := 4) (d := some 17) (v := ?_) rfl (by kernel_rfl) (by kernel_rfl) (by kernel_rfl) (by kernel_rfl) (fun _ _ _ h => h) rfl (by rfl) ?_ (by assumption) ?_
  rotate_left
  · (intro w; go_simp; (try with_reducible rfl))
  try simp only [Act.put, List.setIfInBounds_toArray, List.set_cons_zero, List.set_cons_succ]
  refine take_y (i := 7) (d := some 20) (v := ?_) rfl (by kernel_rfl) (by kernel_rfl) (by kernel_rfl) (by kernel_rfl) (fun _ _ _ h => h) rfl (by rfl) ?_ (by assumption) ?_
  rotate_left
  · (intro w; go_simp; (try with_reducible rfl))
  try simp only [Act.put, List.setIfInBounds_toArray, List.set_cons_zero, List.set_cons_succ]
  refine take_y (i := 8) (d := some 21) (v := ?_) rfl (by kernel_rfl) (by kernel_rfl) (by kernel_rfl) (by kernel_rfl) (fun _ _ _ h => h) rfl (by rfl) ?_ (by assumption) ?_
  rotate_left
  · (intro w; go_simp; (try with_reducible rfl))
  try simp only [Act.put, List.setIfInBounds_toArray, List.set_cons_zero, List.set_cons_succ]
  refine take_t (i := 9) (d := some 22) (v := ?_) rfl (by kernel_rfl) (by kernel_rfl) (by kernel_rfl) (by kernel_rfl) (fun _ _ _ h => h) rfl (by rfl) ?_ (by assumption) ?_
  rotate_left
  · (intro w hSw; (try dsimp only at hSw); go_simp; (try with_reducible rfl))
  try simp only [Act.put, List.setIfInBounds_toArray, List.set_cons_zero, List.set_cons_succ]
  refine both_t (i := 0) (j := 5) rfl rfl (by kernel_rfl) (by rfl) (by rfl) (fun K hK => ?_) (fun K hK => ?_)
  · go_simp
    have hHeld : ((fun w' => w'.cell? ⟨w.heap.size, 0, none⟩ = some (.slice A c.V.length k1) ∧ w'.cell? ⟨w.heap.size, 2, none⟩ = some (.slice E c.M.length k3)) : World → Prop) _ := ALL.out _ ((Q.refl w3).drew.alloc (Obj.cells #[] 3))
    refine hK.out _ _ (fun _ => hHeld) ?_
    clear hK K
    try simp only [Act.put, List.setIfInBounds_toArray, List.set_cons_zero, List.set_cons_succ]
    refine both_t (i := 3) (j := 5) rfl rfl (by kernel_rfl) (by rfl) (by rfl) (fun K hK => ?_) (fun K hK => ?_)
    · refine wp_append_src _ (.tmp 13) (.tmp 15) _ rfl w3.heap.size 3 i0 _ 1 8 Try.underlying24 Hi.out Hz0.out Hz1.out Hz2.out rfl (by omega) (.slice (some ⟨w3.heap.size, 0, none⟩) 0 0) 0 [] rfl (own_empty (Nat.le_refl _) (heap_alloc_new w3.drew (Obj.cells #[] 3))) A c.V.length k1 (cellsI c.V) rfl (by rw [cellsI_len]; omega) (HR3.out.q ((Q.refl w3).drew.alloc (Obj.cells #[] 3))).v.src (cellsI_one _) (by have := HFw.out.1; unfold maxLen; omega) (by have := HFw.out.1; omega) (by simp <;> omega) ?_
      intro v4 w4 own4 gr4 at4
      have HQ4 : Hid (Q w3 w4) := Lib.hid (((Q.refl w3).drew.alloc (Obj.cells #[] 3)).grown gr4 (by simp <;> omega) (by simp [Value.ownBlock] <;> omega))
      have Own4 := Lib.hid own4
      clear own4 gr4 at4
      have hHeld : ((fun w' => w'.cell? ⟨w.heap.size, 0, none⟩ = some (.slice A c.V.length k1) ∧ w'.cell? ⟨w.heap.size, 2, none⟩ = some (.slice E c.M.length k3)) : World → Prop) _ := ALL.out _ HQ4.out
      refine hK.out _ _ (fun _ => hHeld) ?_
      clear hK K
      try simp only [Act.put, List.setIfInBounds_toArray]
      refine call_t (i := 5) rfl (by kernel_rfl) (by rfl) (fun K hK => ?_)
      go_simp
      have hHeld : ((fun w' => w'.cell? ⟨w.heap.size, 0, none⟩ = some (.slice A c.V.length k1) ∧ w'.cell? ⟨w.heap.size, 2, none⟩ = some (.slice E c.M.length k3)) : World → Prop) _ := ALL.out _ (HQ4.out.alloc (Obj.cells #[.int .i64 x] 3))
      refine hK.out _ _ (fun _ => hHeld) ?_
      clear hK K
      try simp only [Act.put, List.setIfInBounds_toArray]
      refine call_t (i := 6) rfl (by kernel_rfl) (by rfl) (fun K hK => ?_)
      have own4' := Own4.out.alloc (Obj.cells #[.int .i64 x] 3)
      have HQ4 := Lib.hid (HQ4.out.alloc (Obj.cells #[.int .i64 x] 3))
      refine wp_append_src _ (.tmp 16) (.tmp 18) _ rfl w3.heap.size 3 i0 _ 1 8 Try.underlying24 Hi.out Hz0.out Hz1.out Hz2.out rfl (by omega) v4 (0 + c.V.length) ([] ++ cellsI c.V) rfl own4' (some ⟨w4.heap.size, 0, none⟩) 1 1 [.int .i64 x] rfl rfl (src_block (cs := #[.int .i64 x]) (heap_alloc_new w4 (Obj.cells #[.int .i64 x] 3))) (by simp [Value.oneCell']) (by have := HFw.out.1; unfold maxLen; omega) (by have := HFw.out.1; omega) (HQ4.out.size) ?_
      intro v5 w5 own5 gr5 at5
      have HQ5 : Hid (Q w3 w5) := Lib.hid (HQ4.out.grown gr5 HQ4.out.size (fun b hb => (own4'.lt b hb).1))
      rw [Nat.zero_add] at own5
      obtain ⟨A5, c5, rfl, hc5, -⟩ := own_o own5
      have Own5 := Lib.hid own5
      have Hc5 := Lib.hid hc5
      clear own5 gr5 at5 hc5
      have hHeld : ((fun w' => w'.cell? ⟨w.heap.size, 0, none⟩ = some (.slice A c.V.length k1) ∧ w'.cell? ⟨w.heap.size, 2, none⟩ = some (.slice E c.M.length k3)) : World → Prop) _ := ALL.out _ HQ5.out
      refine hK.out _ _ (fun _ => hHeld) ?_
      clear hK K
      try simp only [Act.put, List.setIfInBounds_toArray]
      refine call_t (i := 10) rfl (by kernel_rfl) (by rfl) (fun K hK => ?_)
      go_simp
      have hHeld : ((fun w' => w'.cell? ⟨w.heap.size, 0, none⟩ = some (.slice A c.V.length k1) ∧ w'.cell? ⟨w.heap.size, 2, none⟩ = some (.slice E c.M.length k3)) : World → Prop) _ := ALL.out _ HQ5.out
      refine hK.out _ _ (fun _ => hHeld) ?_
      clear hK K
      try simp only [Act.put]
      have hx := HX3.out.q HQ5.out
      have HX5 := Lib.hid hx
      have x0 := hx.c0
      have x1 := hx.c1
      have x2 := hx.c2
      have u0 := hx.f0
      have u1 := hx.f1
      have u2 := hx.f2
      clear s0 s1 hx
      refine call_t (i := 11) rfl (by kernel_rfl) (by rfl) (fun K hK => ?_)
      go_simp
      refine hK.out _ _ (fun hz => by cases hz) ?_
      clear hK K
      try simp only [Act.put]
      refine done_t (by kernel_rfl) ?_ _
      go_wp2_with fail
      have hz := HX5.out.all (.slice A5 (c.V.length + 1) c5) (.slice An nn cn) (.slice E c.M.length k3)
      have y0 := hz.c0
      have y1 := hz.c1
      have y2 := hz.c2
      obtain ⟨hRd, hQd⟩ := fin_grow (x := x) (.slice A5 (c.V.length + 1) c5) (.slice An nn cn) (.slice E c.M.length k3) Own5.out (by omega) Hc5.out (by rw [List.nil_append, cellsI_append]; rfl) (own_q Own3.out HQ5.out) Hnn.out Hcn.out (by rw [List.nil_append, cellsP_append]; rfl) HLo.out HE.out Hk3.out (HQ3.out.trans HQ5.out) (Nat.le_succ _)
      refine bodyPost_ret (v := .agg #[.slice A5 (c.V.length + 1) c5, .slice An nn cn, .slice E c.M.length k3]) (by simp [results, Try.f81, go_sem, y0, y1, y2]) rfl ⟨_, c5, _, cn, _, k3, ?_, hRd, hQd⟩
      rw [show (growC c x).V.length = c.V.length + 1 by simp [growC], show (growC c x).N.length = nn by rw [Hnn.out]; simp [growC]]
      rfl
    · go_simp
      have hHeld : ((fun w' => w'.cell? ⟨w.heap.size, 0, none⟩ = some (.slice A c.V.length k1) ∧ w'.cell? ⟨w.heap.size, 2, none⟩ = some (.slice E c.M.length k3)) : World → Prop) _ := ALL.out _ (((Q.refl w3).drew.alloc (Obj.cells #[] 3)).alloc (Obj.cells #[.int .i64 x] 3))
      refine hK.out _ _ (fun _ => hHeld) ?_
      clear hK K
      try simp only [Act.put, List.setIfInBounds_toArray, List.set_cons_zero, List.set_cons_succ]
      refine call_t (i := 3) rfl (by kernel_rfl) (by rfl) (fun K hK => ?_)
      refine wp_append_src _ (.tmp 13) (.tmp 15) _ rfl w3.heap.size 3 i0 _ 1 8 Try.underlying24 Hi.out Hz0.out Hz1.out Hz2.out rfl (by omega) (.slice (some ⟨w3.heap.size, 0, none⟩) 0 0) 0 [] rfl (own_empty (Nat.le_refl _) (heap_two_old w3.drew (Obj.cells #[] 3) (Obj.cells #[.int .i64 x] 3))) A c.V.length k1 (cellsI c.V) rfl (by rw [cellsI_len]; omega) (HR3.out.q (((Q.refl w3).drew.alloc (Obj.cells #[] 3)).alloc (Obj.cells #[.int .i64 x] 3))).v.src (cellsI_one _) (by have := HFw.out.1; unfold maxLen; omega) (by have := HFw.out.1; omega) (by simp <;> omega) ?_
      intro v4 w4 own4 gr4 at4
      have HQ4 : Hid (Q w3 w4) := Lib.hid ((((Q.refl w3).drew.alloc (Obj.cells #[] 3)).alloc (Obj.cells #[.int .i64 x] 3)).grown gr4 (by simp <;> omega) (by simp [Value.ownBlock] <;> omega))
      have hb4 := far_block gr4 (heap_two_new w3.drew (Obj.cells #[] 3) (Obj.cells #[.int .i64 x] 3)) (by simp [Value.ownBlock])
      have own4' := own4
      clear own4 gr4 at4
      have hHeld : ((fun w' => w'.cell? ⟨w.heap.size, 0, none⟩ = some (.slice A c.V.length k1) ∧ w'.cell? ⟨w.heap.size, 2, none⟩ = some (.slice E c.M.length k3)) : World → Prop) _ := ALL.out _ HQ4.out
      refine hK.out _ _ (fun _ => hHeld) ?_
      clear hK K
      try simp only [Act.put, List.setIfInBounds_toArray]
      refine call_t (i := 6) rfl (by kernel_rfl) (by rfl) (fun K hK => ?_)
      refine wp_append_src _ (.tmp 16) (.tmp 18) _ rfl w3.heap.size 3 i0 _ 1 8 Try.underlying24 Hi.out Hz0.out Hz1.out Hz2.out rfl (by omega) v4 (0 + c.V.length) ([] ++ cellsI c.V) rfl own4' (some ⟨w3.heap.size + 1, 0, none⟩) 1 1 [.int .i64 x] rfl rfl (src_block (cs := #[.int .i64 x]) hb4) (by simp [Value.oneCell']) (by have := HFw.out.1; unfold maxLen; omega) (by have := HFw.out.1; omega) (HQ4.out.size) ?_
      intro v5 w5 own5 gr5 at5
      have HQ5 : Hid (Q w3 w5) := Lib.hid (HQ4.out.grown gr5 HQ4.out.size (fun b hb => (own4'.lt b hb).1))
      rw [Nat.zero_add] at own5
      obtain ⟨A5, c5, rfl, hc5, -⟩ := own_o own5
      have Own5 := Lib.hid own5
      have Hc5 := Lib.hid hc5
      clear own5 gr5 at5 hc5
      have hHeld : ((fun w' => w'.cell? ⟨w.heap.size, 0, none⟩ = some (.slice A c.V.length k1) ∧ w'.cell? ⟨w.heap.size, 2, none⟩ = some (.slice E c.M.length k3)) : World → Prop) _ := ALL.out _ HQ5.out
      refine hK.out _ _ (fun _ => hHeld) ?_
      clear hK K
      try simp only [Act.put]
      refine call_t (i := 10) rfl (by kernel_rfl) (by rfl) (fun K hK => ?_)
      go_simp
      have hHeld : ((fun w' => w'.cell? ⟨w.heap.size, 0, none⟩ = some (.slice A c.V.length k1) ∧ w'.cell? ⟨w.heap.size, 2, none⟩ = some (.slice E c.M.length k3)) : World → Prop) _ := ALL.out _ HQ5.out
      refine hK.out _ _ (fun _ => hHeld) ?_
      clear hK K
      try simp only [Act.put]
      have hx := HX3.out.q HQ5.out
      have HX5 := Lib.hid hx
      have x0 := hx.c0
      have x1 := hx.c1
      have x2 := hx.c2
      have u0 := hx.f0
      have u1 := hx.f1
      have u2 := hx.f2
      clear s0 s1 hx
      refine call_t (i := 11) rfl (by kernel_rfl) (by rfl) (fun K hK => ?_)
      go_simp
      refine hK.out _ _ (fun hz => by cases hz) ?_
      clear hK K
      try simp only [Act.put]
      refine done_t (by kernel_rfl) ?_ _
      go_wp2_with fail
      have hz := HX5.out.all (.slice A5 (c.V.length + 1) c5) (.slice An nn cn) (.slice E c.M.length k3)
      have y0 := hz.c0
      have y1 := hz.c1
      have y2 := hz.c2
      obtain ⟨hRd, hQd⟩ := fin_grow (x := x) (.slice A5 (c.V.length + 1) c5) (.slice An nn cn) (.slice E c.M.length k3) Own5.out (by omega) Hc5.out (by rw [List.nil_append, cellsI_append]; rfl) (own_q Own3.out HQ5.out) Hnn.out Hcn.out (by rw [List.nil_append, cellsP_append]; rfl) HLo.out HE.out Hk3.out (HQ3.out.trans HQ5.out) (Nat.le_succ _)
      refine bodyPost_ret (v := .agg #[.slice A5 (c.V.length + 1) c5, .slice An nn cn, .slice E c.M.length k3]) (by simp [results, Try.f81, go_sem, y0, y1, y2]) rfl ⟨_, c5, _, cn, _, k3, ?_, hRd, hQd⟩
      rw [show (growC c x).V.length = c.V.length + 1 by simp [growC], show (growC c x).N.length = nn by rw [Hnn.out]; simp [growC]]
      rfl
  · go_simp
    have hHeld : ((fun w' => w'.cell? ⟨w.heap.size, 0, none⟩ = some (.slice A c.V.length k1) ∧ w'.cell? ⟨w.heap.size, 2, none⟩ = some (.slice E c.M.length k3)) : World → Prop) _ := ALL.out _ ((Q.refl w3).drew.alloc (Obj.cells #[.int .i64 x] 3))
    refine hK.out _ _ (fun _ => hHeld) ?_
    clear hK K
    try simp only [Act.put, List.setIfInBounds_toArray, List.set_cons_zero, List.set_cons_succ]
    refine call_t (i := 0) rfl (by kernel_rfl) (by rfl) (fun K hK => ?_)
    go_simp
    have hHeld : ((fun w' => w'.cell? ⟨w.heap.size, 0, none⟩ = some (.slice A c.V.length k1) ∧ w'.cell? ⟨w.heap.size, 2, none⟩ = some (.slice E c.M.length k3)) : World → Prop) _ := ALL.out _ (((Q.refl w3).drew.alloc (Obj.cells #[.int .i64 x] 3)).alloc (Obj.cells #[] 3))
    refine hK.out _ _ (fun _ => hHeld) ?_
    clear hK K
    try simp only [Act.put, List.setIfInBounds_toArray, List.set_cons_zero, List.set_cons_succ]
    refine call_t (i := 3) rfl (by kernel_rfl) (by rfl) (fun K hK => ?_)
    refine wp_append_src _ (.tmp 13) (.tmp 15) _ rfl w3.heap.size 3 i0 _ 1 8 Try.underlying24 Hi.out Hz0.out Hz1.out Hz2.out rfl (by omega) (.slice (some ⟨w3.heap.size + 1, 0, none⟩) 0 0) 0 [] rfl (own_empty (Nat.le_succ _) (heap_two_new w3.drew (Obj.cells #[.int .i64 x] 3) (Obj.cells #[] 3))) A c.V.length k1 (cellsI c.V) rfl (by rw [cellsI_len]; omega) (HR3.out.q (((Q.refl w3).drew.alloc (Obj.cells #[.int .i64 x] 3)).alloc (Obj.cells #[] 3))).v.src (cellsI_one _) (by have := HFw.out.1; unfold maxLen; omega) (by have := HFw.out.1; omega) (by simp <;> omega) ?_
    intro v4 w4 own4 gr4 at4
    have HQ4 : Hid (Q w3 w4) := Lib.hid ((((Q.refl w3).drew.alloc (Obj.cells #[.int .i64 x] 3)).alloc (Obj.cells #[] 3)).grown gr4 (by simp <;> omega) (by simp [Value.ownBlock] <;> omega))
    have hb4 := far_block gr4 (heap_two_old w3.drew (Obj.cells #[.int .i64 x] 3) (Obj.cells #[] 3)) (by simp [Value.ownBlock])
    have own4' := own4
    clear own4 gr4 at4
    have hHeld : ((fun w' => w'.cell? ⟨w.heap.size, 0, none⟩ = some (.slice A c.V.length k1) ∧ w'.cell? ⟨w.heap.size, 2, none⟩ = some (.slice E c.M.length k3)) : World → Prop) _ := ALL.out _ HQ4.out
    refine hK.out _ _ (fun _ => hHeld) ?_
    clear hK K
    try simp only [Act.put, List.setIfInBounds_toArray]
    refine call_t (i := 6) rfl (by kernel_rfl) (by rfl) (fun K hK => ?_)
    refine wp_append_src _ (.tmp 16) (.tmp 18) _ rfl w3.heap.size 3 i0 _ 1 8 Try.underlying24 Hi.out Hz0.out Hz1.out Hz2.out rfl (by omega) v4 (0 + c.V.length) ([] ++ cellsI c.V) rfl own4' (some ⟨w3.heap.size, 0, none⟩) 1 1 [.int .i64 x] rfl rfl (src_block (cs := #[.int .i64 x]) hb4) (by simp [Value.oneCell']) (by have := HFw.out.1; unfold maxLen; omega) (by have := HFw.out.1; omega) (HQ4.out.size) ?_
    intro v5 w5 own5 gr5 at5
    have HQ5 : Hid (Q w3 w5) := Lib.hid (HQ4.out.grown gr5 HQ4.out.size (fun b hb => (own4'.lt b hb).1))
    rw [Nat.zero_add] at own5
    obtain ⟨A5, c5, rfl, hc5, -⟩ := own_o own5
    have Own5 := Lib.hid own5
    have Hc5 := Lib.hid hc5
    clear own5 gr5 at5 hc5
    have hHeld : ((fun w' => w'.cell? ⟨w.heap.size, 0, none⟩ = some (.slice A c.V.length k1) ∧ w'.cell? ⟨w.heap.size, 2, none⟩ = some (.slice E c.M.length k3)) : World → Prop) _ := ALL.out _ HQ5.out
    refine hK.out _ _ (fun _ => hHeld) ?_
    clear hK K
    try simp only [Act.put]
    refine call_t (i := 10) rfl (by kernel_rfl) (by rfl) (fun K hK => ?_)
    go_simp
    have hHeld : ((fun w' => w'.cell? ⟨w.heap.size, 0, none⟩ = some (.slice A c.V.length k1) ∧ w'.cell? ⟨w.heap.size, 2, none⟩ = some (.slice E c.M.length k3)) : World → Prop) _ := ALL.out _ HQ5.out
    refine hK.out _ _ (fun _ => hHeld) ?_
    clear hK K
    try simp only [Act.put]
    have hx := HX3.out.q HQ5.out
    have HX5 := Lib.hid hx
    have x0 := hx.c0
    have x1 := hx.c1
    have x2 := hx.c2
    have u0 := hx.f0
    have u1 := hx.f1
    have u2 := hx.f2
    clear s0 s1 hx
    refine call_t (i := 11) rfl (by kernel_rfl) (by rfl) (fun K hK => ?_)
    go_simp
    refine hK.out _ _ (fun hz => by cases hz) ?_
    clear hK K
    try simp only [Act.put]
    refine done_t (by kernel_rfl) ?_ _
    go_wp2_with fail
    have hz := HX5.out.all (.slice A5 (c.V.length + 1) c5) (.slice An nn cn) (.slice E c.M.length k3)
    have y0 := hz.c0
    have y1 := hz.c1
    have y2 := hz.c2
    obtain ⟨hRd, hQd⟩ := fin_grow (x := x) (.slice A5 (c.V.length + 1) c5) (.slice An nn cn) (.slice E c.M.length k3) Own5.out (by omega) Hc5.out (by rw [List.nil_append, cellsI_append]; rfl) (own_q Own3.out HQ5.out) Hnn.out Hcn.out (by rw [List.nil_append, cellsP_append]; rfl) HLo.out HE.out Hk3.out (HQ3.out.trans HQ5.out) (Nat.le_succ _)
    refine bodyPost_ret (v := .agg #[.slice A5 (c.V.length + 1) c5, .slice An nn cn, .slice E c.M.length k3]) (by simp [results, Try.f81, go_sem, y0, y1, y2]) rfl ⟨_, c5, _, cn, _, k3, ?_, hRd, hQd⟩
    rw [show (growC c x).V.length = c.V.length + 1 by simp [growC], show (growC c x).N.length = nn by rw [Hnn.out]; simp [growC]]
    rfl
set_option maxRecDepth 100000 in
theorem refAdd5_any (K : Nat → Prop) (c : Cells) (A D E : Option Addr) (k1 k2 k3 : Nat) (w : World) (hc : CR w K c A k1 D k2 E k3) (hKw : ∀ b, K b → b < w.heap.size) (hf : Few c 1000000) :
    Calls Try.prog 61 #[.agg #[.slice A c.V.length k1, .slice D c.N.length k2, .slice E c.M.length k3]] w (GrowPost K (growC c (c.V.length : Int)) w) := by
  obtain ⟨W0, hW0, q0, hz0, hB, hX⟩ := boxes w (Value.slice A c.V.length k1) (Value.slice D c.N.length k2) (Value.slice E c.M.length k3) 29
  have HB := Lib.hid hB
  have HX := Lib.hid hX
  have HW := Lib.hid hW0
  have HQ0 := Lib.hid q0
  have HZ := Lib.hid hz0
  have HKw := Lib.hid hKw
  have CG := Lib.hid (refGrow4_any K c (c.V.length : Int) A D E k1 k2 k3 W0 (hc.q q0) hf)
  clear hW0 q0 hz0 hB hX hc hf hKw
  go_enter Try.func61, Try.ntmps61
  go_upto_region 1 with fail
  rw [← HW.out]
  clear HW
  have c0 := HB.out.c0
  have c1 := HB.out.c1
  have c2 := HB.out.c2
  go_wp2_with (go_at_call 81; refine CG.out.mono ?_; rintro e w1 ⟨A1, l1, D1, l2, E1, l3, rfl, hc1, q1⟩; have HC1 := Lib.hid hc1; have HQ1 := Lib.hid q1; have hx := HX.out.q q1; have x0 := hx.c0; have x1 := hx.c1; have x2 := hx.c2; have u0 := hx.f0; have u1 := hx.f1; have u2 := hx.f2; have HX1 := Lib.hid hx; clear hx c0 c1 c2 hc1 q1)
  have hz := HX1.out.all (.slice A1 (growC c (c.V.length : Int)).V.length l1) (.slice D1 (growC c (c.V.length : Int)).N.length l2) (.slice E1 (growC c (c.V.length : Int)).M.length l3)
  have y0 := hz.c0
  have y1 := hz.c1
  have y2 := hz.c2
  have gr := set3_grown w1 (w.heap.size + 1) (.slice A1 (growC c (c.V.length : Int)).V.length l1) (.slice D1 (growC c (c.V.length : Int)).N.length l2) (.slice E1 (growC c (c.V.length : Int)).M.length l3)
  refine bodyPost_ret (v := .agg #[.slice A1 (growC c (c.V.length : Int)).V.length l1, .slice D1 (growC c (c.V.length : Int)).N.length l2, .slice E1 (growC c (c.V.length : Int)).M.length l3]) (by simp [results, Try.f61, go_sem, y0, y1, y2]) rfl ⟨A1, l1, D1, l2, E1, l3, rfl, ?_, grown_q gr (HQ0.out.trans HQ1.out) (Nat.le_succ _)⟩
  exact HC1.out.to (agree_grown (P := fun b => K b ∨ W0.heap.size ≤ b) gr (fun h => by rcases h with h | h; exact absurd (HKw.out _ h) (by omega); have := HZ.out; omega)) (fun b h _ => h.elim .inl (fun h => .inr (by have := HZ.out; omega)))
end Go.Proofs.Yteccgjhnifdcfaa.Ig

namespace Go.Proofs.Yteccgjhnifdcfaa.Tr
open Go.RowKit Kit

end Go.Proofs.Yteccgjhnifdcfaa.Tr

namespace Go.Proofs.Yteccgjhnifdcfaa.Uf
open Kit Tr

/-- the first one of a joined class, and the one that was first of the other part -/
def lo (R V : List Int) (a b : Nat) : Nat := if lessB R (fst V b) (fst V a) = true then fst V b else fst V a
def hi (R V : List Int) (a b : Nat) : Nat := if lessB R (fst V b) (fst V a) = true then fst V a else fst V b
end Go.Proofs.Yteccgjhnifdcfaa.Uf

namespace Go.Proofs.Yteccgjhnifdcfaa.Ig
open Go.RowKit Kit Tr Uf

end Go.Proofs.Yteccgjhnifdcfaa.Ig

namespace Go.Proofs.Yteccgjhnifdcfaa.Ig
open Go.RowKit Kit Tr Uf
open Go.Proofs.Yteccgjhnifdcfaa.Hs (Keys Ints KeysP IntsP)
set_option maxRecDepth 100000 in
set_option maxHeartbeats 2000000 in
theorem with12P (K : Nat → Prop) (A S : Option Addr) (n c m d : Nat) (l : List (List Int)) (row : List Int) (k : Nat) (w : World) (hn : n = l.length) (hm : m = row.length) (hk : k < l.length) (hl : l.length ≤ 1000000) (hd : m ≤ d) (hr : KeysP w K A l) (hI : IntsP w K S row) :
    Calls Try.prog 37 #[.slice A n c, .int .i64 (k : Int), .slice S m d] w fun e w' => ∃ g cp, e = .returned (.slice (some ⟨g, 0, none⟩) l.length cp) ∧ l.length ≤ cp ∧ KeysP w' (fun b => K b ∨ w.heap.size ≤ b) (some ⟨g, 0, none⟩) (l.set k row) ∧ Q w w' := by
  subst hn hm
  obtain ⟨V, hV, sV, vV⟩ := hr.vals
  have H1 := Lib.hid (Hs.vals_one (w := w) (B := w.heap.size) hV (fun i k hi => by obtain ⟨a, c, h1, h2, h3⟩ := vV i k hi; exact ⟨a, c, h1, h2, h3.ints⟩))
  have HVl := Lib.hid hV
  have Hsrc : Hid (Src (w.alloc (Obj.cells #[] 24)) A V) := (sV.keep ((Q.refl w).alloc (Obj.cells #[] 24))).src
  have Ho := Lib.hid (own_empty (base := w.heap.size) (e := 24) (size := 1) (Nat.le_refl _) (heap_alloc_new w (Obj.cells #[] 24)))
  have HvV : Hid (∀ (i : Nat) (y : List Int), (l.set k row)[i]? = some y → ∃ a c, y.length ≤ c ∧ (V.set k (.slice S row.length d))[i]? = some (Value.slice a y.length c) ∧ IntsP w K a y) := fun i y hy => by
    by_cases e : k = i
    · subst e
      rw [List.getElem?_set_self hk] at hy
      injection hy with hy
      subst hy
      exact ⟨S, d, hd, by rw [List.getElem?_set_self (by omega)], hI⟩
    · rw [List.getElem?_set_ne e] at hy
      obtain ⟨a, c, h1, h2, h3⟩ := vV i y hy
      exact ⟨a, c, h1, by rw [List.getElem?_set_ne e]; exact h2, h3⟩
  obtain ⟨i0, hi, hz0, hz1, hz2⟩ := info_parts Hs.sliceInfo
  have Hi := Lib.hid hi
  have Hz0 := Lib.hid hz0
  have Hz1 := Lib.hid hz1
  have Hz2 := Lib.hid hz2
  have Hk := Lib.hid hk
  have j0 : (0 : Int) ≤ (k : Int) := Int.natCast_nonneg _
  have j1 : (k : Int) < (l.length : Int) := by omega
  clear hi hz0 hz1 hz2 hV sV vV hr hI
  go_enter Try.func37, Try.ntmps37
  go_upto_region 2 with (at_builtin; refine wpList_append_src _ rfl (.tmp 8) (.tmp 9) _ rfl w.heap.size 24 i0 _ 1 24 Try.underlying23 Hi.out Hz0.out Hz1.out Hz2.out rfl (by omega) (.slice (some ⟨w.heap.size, 0, none⟩) 0 0) 0 [] rfl Ho.out A l.length c V rfl (by rw [HVl.out]; omega) Hsrc.out H1.out (by unfold maxLen; omega) (by omega) (by simp) ?_; intro v2 w2 own2 gr2 _; have HO := Lib.hid own2; have HG := Lib.hid gr2; clear own2 gr2)
  have b2 : Q w w2 := ((Q.refl w).alloc (Obj.cells #[] 24)).grown HG.out (by simp) (by simp [Value.ownBlock])
  have own3 := HO.out
  rw [Nat.zero_add, List.nil_append] at own3
  obtain ⟨g, cap, hv3, hgb⟩ := own3.form (by omega)
  have hcap : l.length ≤ cap := by
    rw [hv3] at own3
    rcases own3.2 with ⟨e0, _⟩ | ⟨G, cp, cur, e1, _, _, hc, _⟩
    · cases e0
    · injection e1 with _ _ e3
      omega
  rw [hv3] at own3
  subst hv3
  have hx : k < V.length := by rw [HVl.out]; exact hk
  have hO := Tr.OwnC.of_row own3
  obtain ⟨c0, f0⟩ := hO.2 k V[k] (List.getElem?_eq_getElem hx)
  have hgl := (own3.lt g rfl)
  have q3 : Q w (w2.setCell ⟨g, k, none⟩ (.slice S row.length d)) := b2.setCell (p := ⟨g, k, none⟩) hgl.1 _
  have HK : Hid (KeysP (w2.setCell ⟨g, k, none⟩ (.slice S row.length d)) (fun b => K b ∨ w.heap.size ≤ b) (some ⟨g, 0, none⟩) (l.set k row)) := fun _ => by
    have hS := hO.set hx (.slice S row.length d)
    refine ⟨_, rfl, .inr hgl.1, hS.1, fun i y hy => ?_⟩
    obtain ⟨a, c, h1, h2, h3⟩ := HvV.out i y hy
    refine ⟨a, c, h1, ?_, h3.toP (agree_q (P := K) q3).1 (agree_q q3).2 (fun b hb _ => .inl hb)⟩
    have := (hS.2 i _ h2).1
    rw [Tr.add_zero_head]
    exact this
  generalize V[k] = v0 at *
  have HQ3 := Lib.hid q3
  have Hcap := Lib.hid hcap
  clear HO HG b2 hgb hcap hO hx own3 hgl q3 Hsrc HvV HVl H1 Ho
  go_wp2_with fail
  go_ret
  exact ⟨g, cap, rfl, Hcap.out, HK.out, HQ3.out⟩
end Go.Proofs.Yteccgjhnifdcfaa.Ig

namespace Go.Proofs.Yteccgjhnifdcfaa.Ig
open Go.RowKit Kit Tr Uf
open Go.Proofs.Yteccgjhnifdcfaa.Hs (Keys Ints BoxT KeysP IntsP)
def K2 (B O : Nat) (b : Nat) : Prop := b ≠ O ∧ b ≠ B + 1 ∧ B ≤ b
section
variable {w W : World} {R : List Int} {c : Cells} {P T : List (List Int)} {m : Nat} {F A D E Pa Ta : Option Addr} {cr k1 k2 k3 kp kt g0 g1 g2 g3 gp ep gs es O M : Nat} 
theorem Box6.grown {W W' : World} {B g : Nat} {a b c d e f : Value} (h : Box6 W B a b c d e f) (hg : W.grownBy W' (some g)) (hne : g ≠ B) : Box6 W' B a b c d e f := by
  have hb : W'.heap[B]? = W.heap[B]? := hg.block B h.lt (fun e => by injection e with e; exact hne e.symm)
  have hc : ∀ i, W'.cell? ⟨B, i, none⟩ = W.cell? ⟨B, i, none⟩ := fun i => World.cell?_of_block (a := ⟨B, i, none⟩) hb
  exact ⟨(hc 0).trans h.c0, (hc 1).trans h.c1, (hc 2).trans h.c2, (hc 3).trans h.c3, (hc 4).trans h.c4, (hc 5).trans h.c5, Nat.lt_of_lt_of_le h.lt hg.size⟩
end

end Go.Proofs.Yteccgjhnifdcfaa.Ig

namespace Go.Proofs.Yteccgjhnifdcfaa.Rw
open Go.RowKit Kit

/-- any token as memory has it: its kind, its text, where it begins -/
abbrev Tg := Int × ByteArray × Int
/-- two texts are the same -/
def eqS (a b : ByteArray) : Bool := a.toList == b.toList
theorem eqS_iff (a b : ByteArray) : eqS a b = true ↔ a = b := by
  unfold eqS
  rw [beq_iff_eq, ByteArray.toList_eq, ByteArray.toList_eq]
  exact ⟨fun h => ByteArray.ext (Array.toList_inj.mp h), fun h => by rw [h]⟩
end Go.Proofs.Yteccgjhnifdcfaa.Rw

namespace Go.Proofs.Yteccgjhnifdcfaa.Nm
open Go.RowKit Kit

def inB (lo hi c : Int) : Bool := decide (lo ≤ c) && decide (c ≤ hi)

def goesB (c : Int) : Bool := inB 97 122 c || inB 65 90 c || inB 48 57 c || (c == 95)

theorem take_snoc (s : ByteArray) (k : Nat) (h : k < s.size) : s.data.toList.take (k + 1) = s.data.toList.take k ++ [s[k]] := by
  rw [List.take_succ_eq_append_getElem (by simpa using h)]; rfl

def restB (l : List UInt8) : Bool := (l.drop 1).all fun c => goesB c.toNat
/-- a name whose first byte lies from lo to hi -/
def nameB (lo hi : Int) (l : List UInt8) : Bool :=
  match l with
  | [] => false
  | c :: _ => decide (l.length ≤ 20) && inB lo hi c.toNat && restB l

theorem small_any (c : Int) (w : World) :
    Calls Try.prog 63 #[.int .u8 c] w fun e w' => e = .returned (.bool (inB 97 122 c)) ∧ w = w' := by
  by_cases h : 97 ≤ c
  · have d : decide (97 ≤ c) = true := by simpa using h
    have HR : Hid (inB 97 122 c = decide (c ≤ 122)) := by unfold Hid inB; rw [d]; rfl
    go_enter Try.func63, Try.ntmps63
    go_wp2_with fail
    go_ret
    exact ⟨by rw [HR.out]; rfl, rfl⟩
  · have d : decide (97 ≤ c) = false := by simpa using h
    have HR : Hid (inB 97 122 c = false) := by unfold Hid inB; rw [d]; rfl
    go_enter Try.func63, Try.ntmps63
    go_wp2_with fail
    go_ret
    exact ⟨by rw [HR.out]; rfl, rfl⟩
theorem big_any (c : Int) (w : World) :
    Calls Try.prog 82 #[.int .u8 c] w fun e w' => e = .returned (.bool (inB 65 90 c)) ∧ w = w' := by
  by_cases h : 65 ≤ c
  · have d : decide (65 ≤ c) = true := by simpa using h
    have HR : Hid (inB 65 90 c = decide (c ≤ 90)) := by unfold Hid inB; rw [d]; rfl
    go_enter Try.func82, Try.ntmps82
    go_wp2_with fail
    go_ret
    exact ⟨by rw [HR.out]; rfl, rfl⟩
  · have d : decide (65 ≤ c) = false := by simpa using h
    have HR : Hid (inB 65 90 c = false) := by unfold Hid inB; rw [d]; rfl
    go_enter Try.func82, Try.ntmps82
    go_wp2_with fail
    go_ret
    exact ⟨by rw [HR.out]; rfl, rfl⟩

def letB (c : Int) : Bool := inB 97 122 c || inB 65 90 c
def figB (c : Int) : Bool := inB 48 57 c || (c == 95)
def okAt (k : Nat) (c : Int) : Bool := letB c || (!(k == 0) && figB c)
def okFrom : List UInt8 → Nat → Bool
  | [], _ => true
  | c :: l, k => okAt k c.toNat && okFrom l (k + 1)
def nmB (l : List UInt8) : Bool := decide (1 ≤ l.length) && decide (l.length ≤ 20) && okFrom l 0
theorem okFrom_at (l : List UInt8) (k : Nat) (h : k < l.length) : okFrom (l.drop k) k = (okAt k l[k].toNat && okFrom (l.drop (k + 1)) (k + 1)) := by
  rw [List.drop_eq_getElem_cons h]; rfl
theorem okFrom_end (l : List UInt8) (k : Nat) (h : l.length ≤ k) : okFrom (l.drop k) k = true := by
  rw [List.drop_eq_nil_of_le h]; rfl
theorem okFrom_rest : ∀ (l : List UInt8) (k : Nat), okFrom l (k + 1) = l.all fun c => goesB c.toNat
  | [], _ => rfl
  | c :: l, k => by
    show (okAt (k + 1) c.toNat && okFrom l (k + 2)) = (goesB c.toNat && _)
    rw [okFrom_rest l (k + 1)]
    have e : okAt (k + 1) c.toNat = goesB c.toNat := by
      unfold okAt letB figB goesB
      generalize inB 97 122 c.toNat = p, inB 65 90 c.toNat = q, inB 48 57 c.toNat = r, ((c.toNat : Int) == 95) = t
      rw [show ((k + 1) == 0) = false by simp]
      revert p q r t; decide
    rw [e]
theorem con_of_nm (l : List UInt8) (h : 0 < l.length) : (nmB l && inB 97 122 (l[0].toNat : Int)) = nameB 97 122 l := by
  match l, h with
  | c :: l, _ =>
    simp only [List.getElem_cons_zero]
    show (decide (1 ≤ (c :: l).length) && decide ((c :: l).length ≤ 20) && (okAt 0 c.toNat && okFrom l (0 + 1)) && _) = (decide ((c :: l).length ≤ 20) && inB 97 122 c.toNat && l.all _)
    rw [okFrom_rest l 0, decide_eq_true (by simp : 1 ≤ (c :: l).length)]
    unfold okAt letB
    generalize inB 97 122 c.toNat = p, inB 65 90 c.toNat = q, (l.all fun c => goesB c.toNat) = r, decide ((c :: l).length ≤ 20) = t, figB c.toNat = u
    revert p q r t u; decide

set_option maxRecDepth 100000 in
set_option maxHeartbeats 400000 in
theorem name_any (s : ByteArray) (w : World) :
    Calls Try.prog 62 #[.string s] w fun e w' => e = .returned (.bool (nmB s.data.toList)) ∧ w = w' := by
  have hlen : s.data.toList.length = s.size := by simp
  by_cases h0 : s.size < 1
  · have HR : Hid (nmB s.data.toList = false) := by unfold Hid nmB; rw [hlen, decide_eq_false (by omega)]; rfl
    clear hlen
    go_enter Try.func62, Try.ntmps62
    go_wp2_with fail
    go_ret
    exact ⟨by rw [HR.out]; rfl, rfl⟩
  · by_cases h20 : 20 < s.size
    · have HR : Hid (nmB s.data.toList = false) := by unfold Hid nmB; rw [hlen, decide_eq_false (by omega : ¬ s.size ≤ 20), Bool.and_false]; rfl
      clear hlen
      go_enter Try.func62, Try.ntmps62
      go_wp2_with fail
      go_ret
      exact ⟨by rw [HR.out]; rfl, rfl⟩
    · have HR : Hid (nmB s.data.toList = okFrom s.data.toList 0) := by unfold Hid nmB; rw [hlen, decide_eq_true (by omega), decide_eq_true (by omega)]; rfl
      have d1 : decide ((s.size : Int) < 1) = false := by simp; omega
      have d2 : decide (20 < (s.size : Int)) = false := by simp; omega
      clear hlen
      go_enter Try.func62, Try.ntmps62
      go_wp2_with fail
      go_loop [3, 4, 5] (fun i _ _ => ∃ k : Nat, k ≤ s.size ∧ i = .int .i64 k ∧ Hid (okFrom s.data.toList 0 = okFrom (s.data.toList.drop k) k)) (fun i _ _ => s.size - (intOf i).toNat)
      case atStart => exact ⟨0, Nat.zero_le _, rfl, Lib.hid (by simp)⟩
      case round =>
        obtain ⟨k, hk, rfl, HF⟩ := hrel
        by_cases hlt : k < s.size
        · have HS : Hid (okFrom (s.data.toList.drop k) k = (okAt k s[k].toNat && okFrom (s.data.toList.drop (k + 1)) (k + 1))) := okFrom_at s.data.toList k (by simpa using hlt)
          go_upto_region 6 with fail
          go_cut [4] (fun f wx => f = .bool (figB s[k].toNat) ∧ wx = w)
          case first =>
            go_wp2_with fail
            all_goals go_meet
            all_goals
              refine ⟨congrArg Value.bool ?_, rfl⟩
              rw [Bool.eq_iff_iff]
              simp only [figB, inB, Bool.or_eq_true, Bool.and_eq_true, decide_eq_true_eq, beq_iff_eq]
              first | omega | (refine ⟨fun _ => ?_, fun _ => trivial⟩; omega)
          case rest =>
            obtain ⟨rfl, rfl⟩ := hcut
            have HO : Hid (okAt k s[k].toNat = (inB 97 122 s[k].toNat || inB 65 90 s[k].toNat || (!(k == 0) && figB s[k].toNat))) := rfl
            cases hp : inB 97 122 s[k].toNat
            · cases hq : inB 65 90 s[k].toNat
              · by_cases hk0 : k = 0
                · have HS' : Hid (okFrom (s.data.toList.drop k) k = false) := by unfold Hid; rw [HS.out, HO.out, hp, hq, show (k == 0) = true by simpa using hk0]; rfl
                  have hk0' : ((k : Int) == 0) = true := by simpa using hk0
                  clear hk0
                  go_wp2_with (first | (go_at_call 63; refine (small_any _ _).mono ?_; rintro e w' ⟨rfl, rfl⟩) | (go_at_call 82; refine (big_any _ _).mono ?_; rintro e w' ⟨rfl, rfl⟩))
                  go_ret
                  exact ⟨by rw [HR.out, HF.out, HS'.out]; rfl, rfl⟩
                · have hk0' : ((k : Int) == 0) = false := by simpa using hk0
                  have hk1 : (k == 0) = false := by simpa using hk0
                  cases hf : figB s[k].toNat
                  · have HS' : Hid (okFrom (s.data.toList.drop k) k = false) := by unfold Hid; rw [HS.out, HO.out, hp, hq, hk1, hf]; rfl
                    clear hk0 hk1
                    go_wp2_with (first | (go_at_call 63; refine (small_any _ _).mono ?_; rintro e w' ⟨rfl, rfl⟩) | (go_at_call 82; refine (big_any _ _).mono ?_; rintro e w' ⟨rfl, rfl⟩))
                    go_ret
                    exact ⟨by rw [HR.out, HF.out, HS'.out]; rfl, rfl⟩
                  · have HS' : Hid (okFrom (s.data.toList.drop k) k = okFrom (s.data.toList.drop (k + 1)) (k + 1)) := by unfold Hid; rw [HS.out, HO.out, hp, hq, hk1, hf]; rfl
                    clear hk0 hk1
                    go_wp2_with (first | (go_at_call 63; refine (small_any _ _).mono ?_; rintro e w' ⟨rfl, rfl⟩) | (go_at_call 82; refine (big_any _ _).mono ?_; rintro e w' ⟨rfl, rfl⟩))
                    go_round
                    case rel => exact ⟨k + 1, by omega, by go_num, Lib.hid (HF.out.trans HS'.out)⟩
                    case measure => simp [intOf]; omega
              · have HS' : Hid (okFrom (s.data.toList.drop k) k = okFrom (s.data.toList.drop (k + 1)) (k + 1)) := by unfold Hid; rw [HS.out, HO.out, hp, hq]; rfl
                go_wp2_with (first | (go_at_call 63; refine (small_any _ _).mono ?_; rintro e w' ⟨rfl, rfl⟩) | (go_at_call 82; refine (big_any _ _).mono ?_; rintro e w' ⟨rfl, rfl⟩))
                go_round
                case rel => exact ⟨k + 1, by omega, by go_num, Lib.hid (HF.out.trans HS'.out)⟩
                case measure => simp [intOf]; omega
            · have HS' : Hid (okFrom (s.data.toList.drop k) k = okFrom (s.data.toList.drop (k + 1)) (k + 1)) := by unfold Hid; rw [HS.out, HO.out, hp]; rfl
              go_wp2_with (first | (go_at_call 63; refine (small_any _ _).mono ?_; rintro e w' ⟨rfl, rfl⟩) | (go_at_call 82; refine (big_any _ _).mono ?_; rintro e w' ⟨rfl, rfl⟩))
              go_round
              case rel => exact ⟨k + 1, by omega, by go_num, Lib.hid (HF.out.trans HS'.out)⟩
              case measure => simp [intOf]; omega
        · have HS := Lib.hid (okFrom_end s.data.toList k (by simp; omega))
          go_wp2_with fail
          go_ret
          exact ⟨by rw [HR.out, HF.out, HS.out]; rfl, rfl⟩

set_option maxRecDepth 100000 in
set_option maxHeartbeats 400000 in
theorem con_any (s : ByteArray) (w : World) :
    Calls Try.prog 42 #[.string s] w fun e w' => e = .returned (.bool (nameB 97 122 s.data.toList)) ∧ w = w' := by
  by_cases h0 : 0 < s.size
  · have HC : Hid ((nmB s.data.toList && inB 97 122 s[0].toNat) = nameB 97 122 s.data.toList) := con_of_nm s.data.toList (by simpa using h0)
    cases hn : nmB s.data.toList
    · rw [hn] at HC
      go_enter Try.func42, Try.ntmps42
      go_wp2_with fail
      refine (name_any _ _).mono ?_
      rintro e w1 ⟨rfl, rfl⟩
      go_wp2_with fail
      go_ret
      exact ⟨by rw [← HC.out]; rfl, rfl⟩
    · rw [hn] at HC
      go_enter Try.func42, Try.ntmps42
      go_wp2_with fail
      refine (name_any _ _).mono ?_
      rintro e w1 ⟨rfl, rfl⟩
      go_wp2_with fail
      refine (small_any _ _).mono ?_
      rintro e w1 ⟨rfl, rfl⟩
      go_wp2_with fail
      go_ret
      exact ⟨by rw [← HC.out]; rfl, rfl⟩
  · have e : s.data.toList = [] := List.eq_nil_of_length_eq_zero (by have : s.data.toList.length = s.size := by simp
                                                                     omega)
    have hn : nmB s.data.toList = false := by rw [e]; rfl
    have HR : Hid (nameB 97 122 s.data.toList = false) := by unfold Hid; rw [e]; rfl
    clear e
    go_enter Try.func42, Try.ntmps42
    go_wp2_with fail
    refine (name_any _ _).mono ?_
    rintro e w1 ⟨rfl, rfl⟩
    go_wp2_with fail
    go_ret
    exact ⟨by rw [HR.out]; rfl, rfl⟩

end Go.Proofs.Yteccgjhnifdcfaa.Nm

namespace Go.Proofs.Yteccgjhnifdcfaa.Ex
open Go.RowKit Kit Rw Go.Proofs.Yteccgjhnifdcfaa.Nm

/-- how many parts a node has -/
def partsN (t : Tg) : Int := if t.1 = 6 then 1 else t.2.2
end Go.Proofs.Yteccgjhnifdcfaa.Ex

namespace Go.Proofs.Yteccgjhnifdcfaa.Ex
open Go.RowKit Kit Rw Go.Proofs.Yteccgjhnifdcfaa.Nm

/-- how many parts, as a length -/
def np (t : Tg) : Nat := (partsN t).toNat
end Go.Proofs.Yteccgjhnifdcfaa.Ex

namespace Go.Proofs.Yteccgjhnifdcfaa.Ex
open Go.RowKit Kit Rw Go.Proofs.Yteccgjhnifdcfaa.Nm

def cellsI (l : List Int) : List Value := l.map (Value.int .i64)
theorem cellsI_len (l : List Int) : (cellsI l).length = l.length := by simp [cellsI]
theorem cellsI_one (l : List Int) : ∀ u ∈ cellsI l, u.oneCell' = true := fun u hu => by
  obtain ⟨x, _, rfl⟩ := List.mem_map.1 hu; rfl
theorem cellsI_at {l : List Int} {k : Nat} (h : k < l.length) : (cellsI l)[k]? = some (.int .i64 l[k]) := by simp [cellsI, h]
theorem cellsI_append (a b : List Int) : cellsI (a ++ b) = cellsI a ++ cellsI b := by simp [cellsI]
theorem intInfo : (Try.prog.info? 3).map (fun i => (i.zero, i.size, i.bytes)) = some (some (.int .i64 0), 1, 8) := by kernel_rfl
end Go.Proofs.Yteccgjhnifdcfaa.Ex

namespace Go.Proofs.Yteccgjhnifdcfaa.Ex
open Go.RowKit Kit Rw Go.Proofs.Yteccgjhnifdcfaa.Nm

theorem int_at {w : World} {B : Nat} {A : Option Addr} {l : List Int} (h : Rds w B A (cellsI l)) {k : Nat} (hk : k < l.length) :
    ∃ ad, A = some ad ∧ ad.block < B ∧ w.cell? (ad.add k) = some (.int .i64 l[k]) := by
  obtain ⟨ad, e, hlt, hc⟩ := h (by rw [cellsI_len]; omega)
  exact ⟨ad, e, hlt, hc k _ (cellsI_at hk)⟩
end Go.Proofs.Yteccgjhnifdcfaa.Ex

namespace Go.Proofs.Yteccgjhnifdcfaa.Ex
open Go.RowKit Kit Rw
open Go.Proofs.Yteccgjhnifdcfaa.Sg (Sig findI)
theorem own_new8 (w : World) (cs : List Value) (t : TypeId) : OwnC (w.alloc (.cells cs.toArray t)) w.heap.size cs :=
  ⟨by simp, fun j v hv => ⟨by have := (src_alloc w cs t (0, 0)) (by have := (List.getElem?_eq_some_iff.1 hv).1; omega); obtain ⟨ad, e, h⟩ := this; injection e with e; subst e; have := h j v hv; rwa [add_zero_head] at this, World.frozen?_alloc_at _ _ _ _ rfl⟩⟩
def turnB (s v : UInt8) : UInt8 := if v = 43 then s else if v = 45 ∧ s = 76 then 82 else if v = 45 ∧ s = 82 then 76 else 66
end Go.Proofs.Yteccgjhnifdcfaa.Ex

namespace Go.Proofs.Yteccgjhnifdcfaa.Ex
open Go.RowKit Kit Rw Go.Proofs.Yteccgjhnifdcfaa.Nm

end Go.Proofs.Yteccgjhnifdcfaa.Ex

namespace Go.Proofs.Yteccgjhnifdcfaa.Ex
open Go.RowKit Kit Rw Go.Proofs.Yteccgjhnifdcfaa.Nm

end Go.Proofs.Yteccgjhnifdcfaa.Ex

namespace Go.Proofs.Yteccgjhnifdcfaa.Ex
open Go.RowKit Kit Rw
open Go.Proofs.Yteccgjhnifdcfaa.Sg (Sig findI Row refFind_any)
end Go.Proofs.Yteccgjhnifdcfaa.Ex

namespace Go.Proofs.Yteccgjhnifdcfaa.Ld
open Go.RowKit Kit Rw
open Go.Proofs.Yteccgjhnifdcfaa.Sg (Sig findI)
open Go.Proofs.Yteccgjhnifdcfaa.Hs (Dist atI atI_some)
open Go.Proofs.Yteccgjhnifdcfaa.Tm (Tm Store mayB keyOk ofKey standB isPl isPl_iff allPl hasB)
open Go.Proofs.Yteccgjhnifdcfaa.Ex (np)
section
variable {L : List Sig} {ks : List (List Int)} {own : List ByteArray}
end

section
variable {L : List Sig} {ks : List (List Int)} {own : List ByteArray}
end
end Go.Proofs.Yteccgjhnifdcfaa.Ld

namespace Go.Proofs.Yteccgjhnifdcfaa.Ld
open Go.RowKit Kit Rw
open Go.Proofs.Yteccgjhnifdcfaa.Sg (Sig findI)
open Go.Proofs.Yteccgjhnifdcfaa.Nm (nameB)
open Go.Proofs.Yteccgjhnifdcfaa.Hs (Dist atI atI_some)
open Go.Proofs.Yteccgjhnifdcfaa.Tm (Tm Store mayB keyOk ofKey standB isPl isPl_iff allPl hasB)
open Go.Proofs.Yteccgjhnifdcfaa.Ex (np)
end Go.Proofs.Yteccgjhnifdcfaa.Ld

namespace Go.Proofs.Yteccgjhnifdcfaa.Tm
open Go.RowKit Kit Hs

end Go.Proofs.Yteccgjhnifdcfaa.Tm

namespace Go.Proofs.Yteccgjhnifdcfaa.Ld
open Go.RowKit Kit Rw
open Go.Proofs.Yteccgjhnifdcfaa.Sg (Sig findI)
open Go.Proofs.Yteccgjhnifdcfaa.Nm (nameB)
open Go.Proofs.Yteccgjhnifdcfaa.Hs (Dist atI atI_some)
open Go.Proofs.Yteccgjhnifdcfaa.Tm (Tm Store mayB keyOk ofKey standB isPl isPl_iff allPl hasB termAt ofKey_at)
open Go.Proofs.Yteccgjhnifdcfaa.Ex (np)
section
variable {L : List Sig} {names : List ByteArray} {ks : List (List Int)}
end
end Go.Proofs.Yteccgjhnifdcfaa.Ld

namespace Go.Proofs.Yteccgjhnifdcfaa.St
open Go.RowKit Kit Rw
open Go.Proofs.Yteccgjhnifdcfaa.Sg (Sig)
open Go.Proofs.Yteccgjhnifdcfaa.Tm (Tm Store ofKey termAt termAt_at mayB standB hasB isPl isPl_iff arity arity_at partsN isKindB)

open Go.Proofs.Yteccgjhnifdcfaa.Ex (turnB)
abbrev PI := Int × Int
/-- how the part k of the constructor of a number varies -/
def varyN (L : List Sig) (s : Int) (k : Nat) : UInt8 := (((L[s.toNat]?.map fun g : Sig => g.2).getD (⟨#[]⟩ : ByteArray)).data.toList)[k]?.getD 0
def pairsF (p q : Int) (v : UInt8) : List PI := (if v ≠ 45 then [(p, q)] else []) ++ (if v ≠ 43 then [(q, p)] else [])
def conF (L : List Sig) (s : Int) : Nat → List Int → List Int → List PI
  | k, a :: l, b :: m => pairsF a b (varyN L s k) ++ conF L s (k + 1) l m
  | _, _, _ => []
def projF (L : List Sig) (s t : Tm) : Int × List PI :=
  if s.k = 1 then (1, (if varyN L t.s t.p.toNat ≠ 45 then [(1, t.xs.headD 0)] else []) ++ (if varyN L t.s t.p.toNat ≠ 43 then [(t.xs.headD 0, 0)] else []))
  else if s.k = 3 ∧ s.s = t.s then (1, pairsF (s.xs[t.p.toNat]?.getD 0) (t.xs.headD 0) (varyN L t.s t.p.toNat)) else (0, [])
def stepT (L : List Sig) (x y : Int) (s t : Tm) : Int × List PI :=
  if x = y ∨ s.k = 0 ∨ t.k = 1 then (0, [])
  else if s.k = 4 then (1, [(s.xs[0]?.getD 0, y), (s.xs[1]?.getD 0, y)])
  else if t.k = 5 then (1, [(x, t.xs[0]?.getD 0), (x, t.xs[1]?.getD 0)])
  else if s.k = 2 ∨ t.k = 2 then (2, [])
  else if t.k = 6 then projF L s t
  else if s.k = 3 ∧ t.k = 3 ∧ s.s = t.s then (1, conF L s.s 0 s.xs t.xs)
  else if (s.k = 1 ∨ s.k = 3) ∧ (t.k = 0 ∨ t.k = 3) then (3, [])
  else (0, [])
def stepF (L : List Sig) (ks : List (List Int)) (x y : Int) : Int × List PI :=
  match termAt ks x, termAt ks y with
  | some s, some t => stepT L x y s t
  | _, _ => (0, [])
end Go.Proofs.Yteccgjhnifdcfaa.St

namespace Go.Proofs.Yteccgjhnifdcfaa.St
open Go.RowKit Kit Rw
open Go.Proofs.Yteccgjhnifdcfaa.Sg (Sig)
open Go.Proofs.Yteccgjhnifdcfaa.Tm (Tm Store ofKey termAt isPl isPl_iff)

open Go.Proofs.Yteccgjhnifdcfaa.Ex (turnB)
abbrev B3 := Bool × Bool × Bool
def onF (side : UInt8) (b : B3) : Bool := if side = 76 then b.1 else if side = 82 then b.2.1 else b.2.2
def varyT (L : List Sig) (t : Tm) (k : Nat) : UInt8 := if t.k = 3 then varyN L t.s k else if t.k = 6 then varyN L t.s t.p.toNat else 43
def allS (L : List Sig) (t : Tm) (f : Int → B3) (s : UInt8) : Nat → List Int → Bool
  | _, [] => true
  | k, x :: l => onF (turnB s (varyT L t k)) (f x) && allS L t f s (k + 1) l
def may3 (t : Tm) : B3 := (decide (¬ t.k = 5 ∧ ¬ t.k = 6), decide (¬ t.k = 4), decide (¬ t.k = 5 ∧ ¬ t.k = 6 ∧ ¬ t.k = 4))
def own3 (L : List Sig) (t : Tm) (f : Int → B3) : B3 := ((may3 t).1 && allS L t f 76 0 t.xs, (may3 t).2.1 && allS L t f 82 0 t.xs, (may3 t).2.2 && allS L t f 66 0 t.xs)
section
variable {L : List Sig} {ks : List (List Int)}
end
end Go.Proofs.Yteccgjhnifdcfaa.St

namespace Go.Proofs.Yteccgjhnifdcfaa.Ex
open Go.RowKit Kit Go.Proofs.Yteccgjhnifdcfaa.Nm Rw

end Go.Proofs.Yteccgjhnifdcfaa.Ex

namespace Go.Proofs.Yteccgjhnifdcfaa.Ex
open Go.RowKit Kit Rw
open Go.Proofs.Yteccgjhnifdcfaa.Sg (Sig findI Row refFind_any)
end Go.Proofs.Yteccgjhnifdcfaa.Ex

namespace Go.Proofs.Yteccgjhnifdcfaa.Ex
open Go.RowKit Kit Rw
open Go.Proofs.Yteccgjhnifdcfaa.Sg (Sig findI Row refFind_any)
end Go.Proofs.Yteccgjhnifdcfaa.Ex

namespace Go.Proofs.Yteccgjhnifdcfaa.St
open Go.RowKit Kit Rw

def cellsQ : List PI → List Value
  | [] => []
  | t :: l => .int .i64 t.1 :: .int .i64 t.2 :: cellsQ l
theorem cellsQ_len (l : List PI) : (cellsQ l).length = l.length * 2 := by
  induction l with
  | nil => rfl
  | cons s l ih => simp [cellsQ, ih]; omega
theorem cellsQ_0 (l : List PI) (i : Nat) : (cellsQ l)[i * 2]? = l[i]?.map fun s => Value.int .i64 s.1 := by
  induction l generalizing i with
  | nil => simp [cellsQ]
  | cons s l ih =>
    cases i with
    | zero => rfl
    | succ i => rw [show (i + 1) * 2 = i * 2 + 1 + 1 by omega]; simpa [cellsQ] using ih i
theorem cellsQ_1 (l : List PI) (i : Nat) : (cellsQ l)[i * 2 + 1]? = l[i]?.map fun s => Value.int .i64 s.2 := by
  induction l generalizing i with
  | nil => simp [cellsQ]
  | cons s l ih =>
    cases i with
    | zero => rfl
    | succ i => rw [show (i + 1) * 2 + 1 = i * 2 + 1 + 1 + 1 by omega]; simpa [cellsQ] using ih i
theorem pair_at {w : World} {B : Nat} {A : Option Addr} {l : List PI} (h : Rds w B A (cellsQ l)) {k : Nat} (hk : k < l.length) :
    ∃ ad, A = some ad ∧ ad.block < B ∧ w.cell? (ad.add (k * 2)) = some (.int .i64 l[k].1) ∧ w.cell? ⟨(ad.add (k * 2)).block, (ad.add (k * 2)).off + 1, none⟩ = some (.int .i64 l[k].2) := by
  obtain ⟨ad, e, hlt, hc⟩ := h (by rw [cellsQ_len]; omega)
  refine ⟨ad, e, hlt, hc _ _ (by rw [cellsQ_0, List.getElem?_eq_getElem hk]; rfl), ?_⟩
  rw [← add_succ]
  exact hc _ _ (by rw [cellsQ_1, List.getElem?_eq_getElem hk]; rfl)
theorem pairInfo : (Try.prog.info? 51).map (fun i => (i.zero, i.size, i.bytes)) = some (some (.agg #[.int .i64 0, .int .i64 0]), 2, 16) := by kernel_rfl
end Go.Proofs.Yteccgjhnifdcfaa.St

namespace Go.Proofs.Yteccgjhnifdcfaa.St
open Go.RowKit Kit Rw
open Go.Proofs.Yteccgjhnifdcfaa.Sg (Sig)
open Go.Proofs.Yteccgjhnifdcfaa.Tm (Tm Store ofKey termAt isPl isPl_iff)

open Go.Proofs.Yteccgjhnifdcfaa.Ex (turnB)
section
variable {L : List Sig} {ks : List (List Int)}
inductive Reach (L : List Sig) (ks : List (List Int)) (p : PI) : PI → Prop where
  | self : Reach L ks p p
  | step {q z : PI} : Reach L ks p q → z ∈ (stepF L ks q.1 q.2).2 → Reach L ks p z
theorem Reach.trans {p q z : PI} (h : Reach L ks p q) (k : Reach L ks q z) : Reach L ks p z := by
  induction k with
  | self => exact h
  | step _ hz ih => exact ih.step hz
/-- pairs in order -/
def ltP (a b : PI) : Prop := a.1 < b.1 ∨ (a.1 = b.1 ∧ a.2 < b.2)
instance (a b : PI) : Decidable (ltP a b) := by unfold ltP; infer_instance
end
end Go.Proofs.Yteccgjhnifdcfaa.St

namespace Go.Proofs.Yteccgjhnifdcfaa.St
open Go.RowKit Kit Rw
open Go.Proofs.Yteccgjhnifdcfaa.Sg (Sig)
open Go.Proofs.Yteccgjhnifdcfaa.Tm (Tm Store ofKey termAt isPl isPl_iff)

open Go.Proofs.Yteccgjhnifdcfaa.Ex (turnB)
section
variable {L : List Sig} {ks : List (List Int)}
end
end Go.Proofs.Yteccgjhnifdcfaa.St

namespace Go.Proofs.Yteccgjhnifdcfaa.St
open Go.RowKit Kit Rw

end Go.Proofs.Yteccgjhnifdcfaa.St

namespace Go.Proofs.Yteccgjhnifdcfaa.Ig
open Go.RowKit Kit Tr Uf
open Go.Proofs.Yteccgjhnifdcfaa.Hs (Keys Ints BoxT layI)
open Go.Proofs.Yteccgjhnifdcfaa.St (cellsQ cellsQ_len pairInfo PI)
end Go.Proofs.Yteccgjhnifdcfaa.Ig

namespace Go.Proofs.Yteccgjhnifdcfaa.Ig
open Go.RowKit Kit Tr Uf
open Go.Proofs.Yteccgjhnifdcfaa.Hs (Keys Ints BoxT KeysP IntsP layI)
open Go.Proofs.Yteccgjhnifdcfaa.St (cellsQ cellsQ_len pairInfo PI)
/-- a row of who may be there -/
def rowG (P : List (List Int)) (g : Nat) : List Int := P.getD g []
section
variable {w W W' : World} {R : List Int} {P T : List (List Int)} {a1 a2 f1 f2 f3 f4 f5 f6 u1 u2 u3 : Value} {np nt g0 gp ep gs es O Br : Nat}
theorem boxT_far {B g : Nat} {a b : Value} (h : BoxT W B a b) (hg : W.grownBy W' (some g)) (hne : g ≠ B) : BoxT W' B a b := by
  have hb : W'.heap[B]? = W.heap[B]? := hg.block B h.lt (fun e => by injection e with e; exact hne e.symm)
  have hc : ∀ i, W'.cell? ⟨B, i, none⟩ = W.cell? ⟨B, i, none⟩ := fun i => World.cell?_of_block (a := ⟨B, i, none⟩) hb
  exact ⟨(hc 0).trans h.c0, (hc 1).trans h.c1, Nat.lt_of_lt_of_le h.lt hg.size⟩
end
end Go.Proofs.Yteccgjhnifdcfaa.Ig

namespace Go.Proofs.Yteccgjhnifdcfaa.Ig
open Go.RowKit Kit Tr Uf
open Go.Proofs.Yteccgjhnifdcfaa.Hs (Keys Ints BoxT KeysP IntsP)
open Go.Proofs.Yteccgjhnifdcfaa.St (cellsQ cellsQ_len pairInfo PI)
/-- a graph that can be read, in blocks of a kind (nothing said of what the slices could hold) -/
structure GRQ (w : World) (K : Nat → Prop) (R : List Int) (c : Cells) (P T : List (List Int)) (F A D E Pa Ta : Option Addr) (k1 k2 k3 : Nat) : Prop where
  r : RdsP w K F (cellsI R)
  v : RdsP w K A (cellsI c.V)
  n : RdsP w K D (cellsP c.N)
  m : RdsP w K E (cellsI c.M)
  p : KeysP w K Pa P
  t : KeysP w K Ta T
  lv : c.V.length ≤ k1
  ln : c.N.length ≤ k2
  lm : c.M.length ≤ k3
theorem GRQ.to {w W : World} {K K' : Nat → Prop} {R : List Int} {c : Cells} {P T : List (List Int)} {F A D E Pa Ta : Option Addr} {k1 k2 k3 : Nat} (h : GRQ w K R c P T F A D E Pa Ta k1 k2 k3) (ha : w.heap.size ≤ W.heap.size ∧ ∀ p : Addr, K p.block → p.block < w.heap.size → W.cell? p = w.cell? p) (hK : ∀ b, K b → b < w.heap.size → K' b) : GRQ W K' R c P T F A D E Pa Ta k1 k2 k3 :=
  ⟨h.r.toP ha.1 ha.2 hK, h.v.toP ha.1 ha.2 hK, h.n.toP ha.1 ha.2 hK, h.m.toP ha.1 ha.2 hK, h.p.toP ha.1 ha.2 hK, h.t.toP ha.1 ha.2 hK, h.lv, h.ln, h.lm⟩
theorem GRQ.rd {w : World} {K : Nat → Prop} {R : List Int} {c : Cells} {P T : List (List Int)} {F A D E Pa Ta : Option Addr} {k1 k2 k3 : Nat} (h : GRQ w K R c P T F A D E Pa Ta k1 k2 k3) : Rd w c A k1 D k2 E k3 := ⟨h.v.rds, h.n.rds, h.m.rds, h.lv, h.ln, h.lm⟩
theorem GRQ.q {w W : World} {K : Nat → Prop} {R : List Int} {c : Cells} {P T : List (List Int)} {F A D E Pa Ta : Option Addr} {k1 k2 k3 : Nat} (h : GRQ w K R c P T F A D E Pa Ta k1 k2 k3) (q : Q w W) : GRQ W K R c P T F A D E Pa Ta k1 k2 k3 := h.to (agree_q q) (fun _ h _ => h)
theorem CR.of {w : World} {K : Nat → Prop} {R : List Int} {c : Cells} {P T : List (List Int)} {F A D E Pa Ta : Option Addr} {k1 k2 k3 : Nat} (h : GRQ w K R c P T F A D E Pa Ta k1 k2 k3) : CR w K c A k1 D k2 E k3 := ⟨h.v, h.n, h.m, h.lv, h.ln, h.lm⟩
theorem CR.ahead {K : Nat → Prop} {W6 U U0 wE : World} {c : Cells} {A D E : Option Addr} {k1 k2 k3 B : Nat} (h : CR U (fun b => K b ∨ U0.heap.size ≤ b) c A k1 D k2 E k3) (q0 : W6.heap.size ≤ U0.heap.size) (q : Q U wE) (hB : U.heap.size ≤ B ∨ B < U0.heap.size ∧ ∀ b, K b → b ≠ B) : CR wE (fun b => (K b ∨ W6.heap.size ≤ b) ∧ b ≠ B) c A k1 D k2 E k3 := h.to (agree_q (P := fun b => K b ∨ U0.heap.size ≤ b) q) (fun b hb hl => ⟨hb.elim .inl (fun h => .inr (by omega)), hB.elim (fun h => by omega) (fun h => hb.elim (h.2 b) (fun h2 => by omega))⟩)

end Go.Proofs.Yteccgjhnifdcfaa.Ig

namespace Go.Proofs.Yteccgjhnifdcfaa.Cy
open Uf

/-- how many steps each is away, k rounds having been gone; -1: not reached yet -/
def dl (N : Nat) (e : Nat → Nat → Bool) (s : Nat) : Nat → Nat → Int
  | 0, v => if v = s then 0 else -1
  | k + 1, v => if dl N e s k v < 0 ∧ (List.range N).any (fun u => decide (dl N e s k u = (k : Int)) && e u v) = true then ((k + 1 : Nat) : Int) else dl N e s k v

section
variable {N : Nat} {e : Nat → Nat → Bool} {s : Nat}
theorem dl_succ (k v : Nat) : dl N e s (k + 1) v = if dl N e s k v < 0 ∧ (List.range N).any (fun u => decide (dl N e s k u = (k : Int)) && e u v) = true then ((k + 1 : Nat) : Int) else dl N e s k v := rfl
theorem any_iff (k v : Nat) : (List.range N).any (fun u => decide (dl N e s k u = (k : Int)) && e u v) = true ↔ ∃ u, u < N ∧ dl N e s k u = (k : Int) ∧ e u v = true := by
  simp [List.any_eq_true]
theorem dl_bound (k v : Nat) : -1 ≤ dl N e s k v ∧ dl N e s k v ≤ (k : Int) := by
  induction k with
  | zero => unfold dl; by_cases h : v = s <;> simp [h]
  | succ k ih =>
    rw [dl_succ]
    by_cases h : dl N e s k v < 0 ∧ (List.range N).any (fun u => decide (dl N e s k u = (k : Int)) && e u v) = true
    · rw [if_pos h]; omega
    · rw [if_neg h]; omega
theorem dl_stay {k v : Nat} (h : 0 ≤ dl N e s k v) : ∀ m, dl N e s (k + m) v = dl N e s k v := fun m => by
  induction m with
  | zero => rfl
  | succ m ih =>
    show dl N e s (k + m + 1) v = _
    rw [dl_succ, if_neg (fun hc => by rw [ih] at hc; omega), ih]
theorem dl_from {k v d : Nat} (h : dl N e s k v = (d : Int)) : ∀ {j}, d ≤ j → j ≤ k → dl N e s j v = (d : Int) := by
  induction k with
  | zero => intro j h1 h2; rw [show j = 0 by omega]; exact h
  | succ k ih =>
    intro j h1 h2
    by_cases hj : j = k + 1
    · rw [hj]; exact h
    · rw [dl_succ] at h
      by_cases hc : dl N e s k v < 0 ∧ (List.range N).any (fun u => decide (dl N e s k u = (k : Int)) && e u v) = true
      · rw [if_pos hc] at h; omega
      · rw [if_neg hc] at h
        exact ih h h1 (by omega)
/-- at any later round the same ones are so far -/
theorem dl_same {j m v d : Nat} (h1 : d ≤ j) (h2 : j ≤ m) : dl N e s j v = (d : Int) ↔ dl N e s m v = (d : Int) := by
  constructor
  · intro h
    have := dl_stay (m := m - j) (by omega : 0 ≤ dl N e s j v)
    rw [show j + (m - j) = m by omega] at this
    rw [this]; exact h
  · intro h
    exact dl_from h h1 h2
theorem dl_self (k : Nat) : dl N e s k s = 0 := by
  have := dl_stay (N := N) (e := e) (s := s) (k := 0) (v := s) (by simp [dl]) k
  rw [Nat.zero_add] at this
  rw [this]; simp [dl]
theorem dl_zero {k v : Nat} (h : dl N e s k v = 0) : v = s := by
  have := dl_from (d := 0) h (Nat.zero_le 0) (Nat.zero_le k)
  by_cases hv : v = s
  · exact hv
  · simp [dl, hv] at this
theorem dl_back {k v d : Nat} (h : dl N e s k v = ((d + 1 : Nat) : Int)) : ∃ u, u < N ∧ dl N e s k u = (d : Int) ∧ e u v = true := by
  induction k with
  | zero => unfold dl at h; by_cases hv : v = s <;> simp [hv] at h <;> omega
  | succ k ih =>
    rw [dl_succ] at h
    by_cases hc : dl N e s k v < 0 ∧ (List.range N).any (fun u => decide (dl N e s k u = (k : Int)) && e u v) = true
    · rw [if_pos hc] at h
      obtain ⟨u, hu, h1, h2⟩ := (any_iff k v).1 hc.2
      have hd : d = k := by omega
      subst hd
      exact ⟨u, hu, (dl_same (Nat.le_refl _) (by omega)).1 h1, h2⟩
    · rw [if_neg hc] at h
      obtain ⟨u, hu, h1, h2⟩ := ih h
      refine ⟨u, hu, ?_, h2⟩
      have hb := (dl_bound (N := N) (e := e) (s := s) k u).2
      exact (dl_same (j := k) (by omega) (by omega)).1 h1
theorem dl_end {k : Nat} (h : ∀ u, u < N → dl N e s k u ≠ (k : Int)) (m v : Nat) : dl N e s (k + m) v = dl N e s k v := by
  have key : ∀ m, (∀ v, dl N e s (k + m) v = dl N e s k v) := by
    intro m
    induction m with
    | zero => intro v; rfl
    | succ m ih =>
      intro v
      show dl N e s (k + m + 1) v = _
      rw [dl_succ, if_neg, ih v]
      rintro ⟨_, hc⟩
      obtain ⟨u, hu, h1, _⟩ := (any_iff (k + m) v).1 hc
      rw [ih u] at h1
      have := (dl_bound (N := N) (e := e) (s := s) k u).2
      exact h u hu (by omega)
  exact key m v

theorem countP_lt {α : Type} {p q : α → Bool} : ∀ {l : List α}, (∀ x ∈ l, p x = true → q x = true) → (∃ x ∈ l, q x = true ∧ p x = false) → l.countP p < l.countP q
  | [], _, ⟨x, hx, _⟩ => by cases hx
  | y :: l, h, ⟨x, hx, h1, h2⟩ => by
    have hle : l.countP p ≤ l.countP q := List.countP_mono_left fun z hz => h z (List.mem_cons_of_mem _ hz)
    rw [List.countP_cons, List.countP_cons]
    rcases List.mem_cons.1 hx with rfl | hx
    · rw [h1, h2]; simp; omega
    · have := countP_lt (fun z hz => h z (List.mem_cons_of_mem _ hz)) ⟨x, hx, h1, h2⟩
      have hy := h y (List.mem_cons_self ..)
      by_cases hp : p y = true
      · rw [hp, hy hp]; simp; omega
      · rw [if_neg hp]; omega
theorem dl_count {k : Nat} (h : ∃ u, u < N ∧ dl N e s k u = (k : Int)) : k + 1 ≤ (List.range N).countP (fun u => decide (0 ≤ dl N e s k u)) := by
  induction k with
  | zero =>
    obtain ⟨u, hu, h⟩ := h
    have : 0 < (List.range N).countP (fun u => decide (0 ≤ dl N e s 0 u)) := List.countP_pos_iff.2 ⟨u, List.mem_range.2 hu, by simp [h]⟩
    omega
  | succ k ih =>
    obtain ⟨u, hu, h⟩ := h
    obtain ⟨x, hx, h1, _⟩ := dl_back h
    have h2 := (dl_same (j := k) (Nat.le_refl _) (by omega)).2 h1
    have := ih ⟨x, hx, h2⟩
    have hlt : (List.range N).countP (fun u => decide (0 ≤ dl N e s k u)) < (List.range N).countP (fun u => decide (0 ≤ dl N e s (k + 1) u)) := by
      refine countP_lt (fun z _ hz => ?_) ⟨u, List.mem_range.2 hu, by simp [h]; omega, ?_⟩
      · have hz := of_decide_eq_true hz
        have := dl_stay hz 1
        exact decide_eq_true (by rw [this]; exact hz)
      · refine decide_eq_false (fun hz => ?_)
        have := dl_stay hz 1
        have hb := (dl_bound (N := N) (e := e) (s := s) k u).2
        rw [this] at h
        omega
    omega
theorem dl_many {k : Nat} (h : ∃ u, u < N ∧ dl N e s k u = (k : Int)) : k < N := by
  have h1 := dl_count h
  have h2 := List.countP_le_length (p := fun u => decide (0 ≤ dl N e s k u)) (l := List.range N)
  rw [List.length_range] at h2
  omega
theorem dl_all {j : Nat} (h : N ≤ j) (v : Nat) : dl N e s j v = dl N e s N v := by
  have := dl_end (N := N) (e := e) (s := s) (k := N) (fun u hu hc => by have := dl_many ⟨u, hu, hc⟩; omega) (j - N) v
  rw [show N + (j - N) = j by omega] at this
  exact this

/-- who reaches v: the least of those a step nearer -/
def prev (N : Nat) (e : Nat → Nat → Bool) (D : Nat → Int) (k v : Nat) : Nat := ((List.range N).find? (fun u => decide (D u = (k : Int)) && e u v)).getD 0
theorem prev_of {D : Nat → Int} {k v : Nat} (h : ∃ u, u < N ∧ D u = (k : Int) ∧ e u v = true) : prev N e D k v < N ∧ D (prev N e D k v) = (k : Int) ∧ e (prev N e D k v) v = true := by
  unfold prev
  cases hf : (List.range N).find? (fun u => decide (D u = (k : Int)) && e u v) with
  | none =>
    obtain ⟨u, hu, h1, h2⟩ := h
    have := List.find?_eq_none.1 hf u (List.mem_range.2 hu)
    simp [h1, h2] at this
  | some u =>
    have h1 := List.find?_some hf
    have h2 := List.mem_of_find?_eq_some hf
    simp at h1 h2
    exact ⟨h2, h1.1, h1.2⟩
theorem prev_congr {D D' : Nat → Int} {k v : Nat} (h : ∀ u, u < N → (D u = (k : Int) ↔ D' u = (k : Int))) : prev N e D k v = prev N e D' k v := by
  unfold prev
  congr 1
  have : ∀ l : List Nat, (∀ u ∈ l, u < N) → l.find? (fun u => decide (D u = (k : Int)) && e u v) = l.find? (fun u => decide (D' u = (k : Int)) && e u v) := by
    intro l
    induction l with
    | nil => intro _; rfl
    | cons x l ih =>
      intro hl
      rw [List.find?_cons, List.find?_cons, decide_eq_decide.2 (h x (hl x (List.mem_cons_self ..))), ih fun u hu => hl u (List.mem_cons_of_mem _ hu)]
  exact this _ fun u hu => List.mem_range.1 hu
/-- the way back, in order -/
def back (N : Nat) (e : Nat → Nat → Bool) (D : Nat → Int) : Nat → Nat → List Nat
  | 0, v => [v]
  | k + 1, v => back N e D k (prev N e D k v) ++ [v]
theorem back_len (D : Nat → Int) (k v : Nat) : (back N e D k v).length = k + 1 := by
  induction k generalizing v with
  | zero => rfl
  | succ k ih => rw [back, List.length_append, ih]; rfl
theorem back_last (D : Nat → Int) (k v : Nat) : (back N e D k v)[k]? = some v := by
  cases k with
  | zero => rfl
  | succ k => rw [back, List.getElem?_append_right (by rw [back_len]; omega), back_len]; simp
theorem back_congr {D D' : Nat → Int} {k : Nat} (h : ∀ j u, j < k → u < N → (D u = (j : Int) ↔ D' u = (j : Int))) : ∀ v, back N e D k v = back N e D' k v := by
  induction k with
  | zero => intro v; rfl
  | succ k ih =>
    intro v
    rw [back, back, prev_congr (fun u hu => h k u (by omega) hu), ih (fun j u hj hu => h j u (by omega) hu)]
/-- each on it is so far; each step is one -/
theorem back_far {m k v : Nat} (h : dl N e s m v = (k : Int)) (hv : v < N) : ∀ i, i ≤ k → ∃ u, (back N e (dl N e s m) k v)[i]? = some u ∧ u < N ∧ dl N e s m u = (i : Int) ∧ (0 < i → ∃ x, (back N e (dl N e s m) k v)[i - 1]? = some x ∧ e x u = true) := by
  induction k generalizing v with
  | zero => intro i hi; rw [show i = 0 by omega]; exact ⟨v, rfl, hv, h, fun h => by omega⟩
  | succ k ih =>
    intro i hi
    obtain ⟨p1, p2, p3⟩ := prev_of (dl_back h)
    have IH := ih p2 p1
    have hl : (back N e (dl N e s m) k (prev N e (dl N e s m) k v)).length = k + 1 := back_len _ _ _
    rw [back]
    by_cases hik : i = k + 1
    · subst hik
      refine ⟨v, by rw [List.getElem?_append_right (by omega), hl]; simp, hv, h, fun _ => ⟨prev N e (dl N e s m) k v, ?_, p3⟩⟩
      rw [Nat.add_sub_cancel, List.getElem?_append_left (by omega)]
      exact back_last _ _ _
    · obtain ⟨u, h1, h2, h3, h4⟩ := IH i (by omega)
      refine ⟨u, by rw [List.getElem?_append_left (by omega)]; exact h1, h2, h3, fun h0 => ?_⟩
      obtain ⟨x, h5, h6⟩ := h4 h0
      exact ⟨x, by rw [List.getElem?_append_left (by omega)]; exact h5, h6⟩
theorem back_first {m k v : Nat} (h : dl N e s m v = (k : Int)) (hv : v < N) : (back N e (dl N e s m) k v)[0]? = some s := by
  obtain ⟨u, h1, _, h3, _⟩ := back_far h hv 0 (Nat.zero_le _)
  rw [h1, dl_zero (k := m) h3]

/-- P13.2 -/
def pathN (N : Nat) (e : Nat → Nat → Bool) (s t : Nat) (depth : Int) : List Nat :=
  if 0 ≤ dl N e s N t ∧ dl N e s N t ≤ max depth 0 then back N e (dl N e s N) (dl N e s N t).toNat t else []
/-- what a search that stopped at j says -/
theorem path_stop {t j : Nat} {depth : Int} (hj : (j : Int) ≤ max depth 0) (hs : (j : Int) = max depth 0 ∨ (∀ u, u < N → dl N e s j u ≠ (j : Int)) ∨ 0 ≤ dl N e s j t) :
    pathN N e s t depth = if 0 ≤ dl N e s j t then back N e (dl N e s j) (dl N e s j t).toNat t else [] := by
  have hm : ∀ (d : Nat) (u : Nat), d ≤ j → (dl N e s j u = (d : Int) ↔ dl N e s N u = (d : Int)) := fun d u hd => by
    by_cases h : j ≤ N
    · exact dl_same hd h
    · rw [dl_all (by omega) u]
  unfold pathN
  by_cases h : 0 ≤ dl N e s j t
  · obtain ⟨d, hd⟩ := Int.eq_ofNat_of_zero_le h
    have hb := (dl_bound (N := N) (e := e) (s := s) j t).2
    have h2 := (hm d t (by omega)).1 hd
    rw [if_pos h, h2, hd, if_pos ⟨by omega, by omega⟩]
    simp only [Int.toNat_natCast]
    exact (back_congr (fun i u hi _ => hm i u (by omega)) t).symm
  · rw [if_neg h]
    refine if_neg fun hc => ?_
    obtain ⟨d, hd⟩ := Int.eq_ofNat_of_zero_le hc.1
    have hd : dl N e s N t = (d : Int) := hd
    rcases hs with hs | hs | hs
    · have := (hm d t (by omega)).2 hd; omega
    · by_cases hjN : j ≤ N
      · have := dl_end hs (N - j) t
        rw [show j + (N - j) = N by omega] at this
        omega
      · have := dl_all (N := N) (e := e) (s := s) (j := j) (by omega) t
        omega
    · exact h hs
end
end Go.Proofs.Yteccgjhnifdcfaa.Cy
