/-
  What the proofs lean on, part 4 of 20.
-/
import Derived.Test.YtnifmfdlocgefaaGreatPa
import Derived.Test.YtnifmfdlocgefaaGreatPc
import Derived.Deep.SlicePairs
import Derived.Lib.SmallJoins
import Derived.OwnWalk
import Derived.Laws.CopyOwn
import Derived.Laws.MakeOwn
import Derived.Laws.OwnMore
import Derived.Outline
import Derived.Laws.Append
import Derived.Laws.StructEq
import Derived.Deep.RegionHeld
import Derived.Deep.RegionHeld3
namespace Go.Proofs.YtnifmfdlocgefaaGreat.Kit

section
variable {P : Program} {md : Region.Mode} {ops : Array Oper} {Q : Exit → Act → World → Prop} {S : World → Prop} {z : Nat}
def wpAnyT (P : Program) (md : Region.Mode) (ops : Array Oper) (Q : Exit → Act → World → Prop) (S : World → Prop) (z : Nat) : Nat → Array Bool → Act → World → Prop
  | 0, listed, a, w => Region.ready md ops listed = [] ∧ Q .normal a w
  | fuel + 1, listed, a, w =>
    (Region.ready md ops listed = [] → Q .normal a w) ∧
    ∀ i ∈ Region.ready md ops listed, wpOp P ops Q i (fun a' w' => ((listed.setIfInBounds i true).getD z true = false → S w') ∧ wpAnyT P md ops Q S z fuel (listed.setIfInBounds i true) a' w') a w
theorem wpAny_of_till : ∀ (fuel : Nat) (listed : Array Bool) (a : Act) (w : World), wpAnyT P md ops Q S z fuel listed a w → wpAny P md ops Q fuel listed a w
  | 0, _, _, _, h => h
  | fuel + 1, _, _, _, h => ⟨h.1, fun i hi => wpOp_mono (fun a' w' h' => wpAny_of_till fuel _ a' w' h'.2) (h.2 i hi)⟩
theorem getD_set_ne9 {xs : Array Bool} {i k : Nat} (h : i ≠ k) : (xs.setIfInBounds i true).getD k true = xs.getD k true := by
  simp only [Array.getD_eq_getD_getElem?]
  rw [Array.getElem?_setIfInBounds_ne h]
theorem wpAnyT_first {i : Nat} {oi oz : Oper} {v : Value} (hi : ops[i]? = some oi) (hsel : ∀ (j : Nat) (o : Oper) cs b, ops[j]? = some o → o.op ≠ .select cs b)
    (hQ : ∀ c a w, Q (.panic c) (a.put oi.dst v) w → Q (.panic c) a w) (hoz : ops[z]? = some oz) (hzi : ∃ e ∈ oz.after, Region.binds md e = true ∧ e.on = i) (hne : z ≠ i) :
    ∀ (fuel : Nat) (listed : Array Bool) (a : Act) (w : World),
      (∀ j oj, ops[j]? = some oj → j ≠ i → listed.getD j true = false → (∀ e ∈ oj.after, Region.binds md e = true → e.on ≠ i) → oi.apart ops oj = true) →
      i ∈ Region.ready md ops listed → listed.getD z true = false → YieldsIf P ops S oi v a → S w →
      wpAnyT P md ops Q S z fuel (listed.setIfInBounds i true) (a.put oi.dst v) w → wpAnyT P md ops Q S z (fuel + 1) listed a w := by
  intro fuel
  induction fuel with
  | zero =>
    intro listed a w _ hr _ hy hS H
    refine ⟨fun h => (by rw [h] at hr; cases hr), fun j hj => ?_⟩
    by_cases hji : j = i
    · subst hji; exact hy.wpOp hi hS ⟨fun _ => hS, H⟩
    · have := ready_mono hj hji
      rw [H.1] at this
      cases this
  | succ fuel ih =>
    intro listed a w hfree hr hz hy hS H
    refine ⟨fun h => (by rw [h] at hr; cases hr), fun j hj => ?_⟩
    by_cases hji : j = i
    · subst hji; exact hy.wpOp hi hS ⟨fun _ => hS, H⟩
    · have h1 := H.2 j (ready_mono hj hji)
      obtain ⟨hjun, oj, hoj, hall⟩ := mem_ready.1 hj
      have hnot : ∀ e ∈ oj.after, Region.binds md e = true → e.on ≠ i := fun e he hb heq => by
        have h1 := hall e he hb
        have h0 := (mem_ready.1 hr).1
        rw [heq] at h1
        rcases Nat.lt_or_ge i listed.size with h' | h'
        · simp [h'] at h0 h1; rw [h0] at h1; cases h1
        · simp [Array.getElem?_eq_none h'] at h1
      have hjz : j ≠ z := fun e => by
        subst e
        rw [hoz] at hoj
        injection hoj with hoj
        subst hoj
        obtain ⟨e, he, hb, ho⟩ := hzi
        exact hnot e he hb ho
      have hz2 : (listed.setIfInBounds j true).getD z true = false := by rw [getD_set_ne9 hjz]; exact hz
      have hz3 : ((listed.setIfInBounds i true).setIfInBounds j true).getD z true = false := by rw [getD_set_ne9 hjz, getD_set_ne9 (fun e => hne e.symm)]; exact hz
      have h2 := wpOp_putIf hoj (hfree j oj hoj hji hjun hnot) (fun cs b => hsel i oi cs b hi) (fun cs b => hsel j oj cs b hoj) hQ hy h1
      have hfree' : ∀ k ok, ops[k]? = some ok → k ≠ i → (listed.setIfInBounds j true).getD k true = false →
          (∀ e ∈ ok.after, Region.binds md e = true → e.on ≠ i) → oi.apart ops ok = true := fun k ok hk hki hun hno => by
        refine hfree k ok hk hki ?_ hno
        by_cases hjk : j = k
        · subst hjk; exact hjun
        · rw [getD_set_ne9 hjk] at hun; exact hun
      refine wpOp_mono (fun a' w' h3 => ⟨fun _ => h3.2.1 hz3, ih (listed.setIfInBounds j true) a' w' hfree' (ready_mono hr (Ne.symm hji)) hz2 h3.1 (h3.2.1 hz3) ?_⟩) h2
      rw [Array.setIfInBounds_comm _ _ hji]
      exact h3.2.2
/-- an operation that yields its value in whatever world may be taken first at any time -/
theorem wpAnyT_firstY {i : Nat} {oi : Oper} {v : Value} (hi : ops[i]? = some oi) (hsel : ∀ (j : Nat) (o : Oper) cs b, ops[j]? = some o → o.op ≠ .select cs b)
    (hQ : ∀ c a w, Q (.panic c) (a.put oi.dst v) w → Q (.panic c) a w) (hne : z ≠ i) :
    ∀ (fuel : Nat) (listed : Array Bool) (a : Act) (w : World),
      (∀ j oj, ops[j]? = some oj → j ≠ i → listed.getD j true = false → (∀ e ∈ oj.after, Region.binds md e = true → e.on ≠ i) → oi.apart ops oj = true) →
      i ∈ Region.ready md ops listed → YieldsIf P ops (fun _ => True) oi v a → (listed.getD z true = false → S w) →
      wpAnyT P md ops Q S z fuel (listed.setIfInBounds i true) (a.put oi.dst v) w → wpAnyT P md ops Q S z (fuel + 1) listed a w := by
  intro fuel
  induction fuel with
  | zero =>
    intro listed a w _ hr hy hS H
    refine ⟨fun h => (by rw [h] at hr; cases hr), fun j hj => ?_⟩
    by_cases hji : j = i
    · subst hji; exact hy.wpOp hi trivial ⟨fun h => hS (by rw [getD_set_ne9 (fun e => hne e.symm)] at h; exact h), H⟩
    · have := ready_mono hj hji
      rw [H.1] at this
      cases this
  | succ fuel ih =>
    intro listed a w hfree hr hy hS H
    refine ⟨fun h => (by rw [h] at hr; cases hr), fun j hj => ?_⟩
    by_cases hji : j = i
    · subst hji; exact hy.wpOp hi trivial ⟨fun h => hS (by rw [getD_set_ne9 (fun e => hne e.symm)] at h; exact h), H⟩
    · have h1 := H.2 j (ready_mono hj hji)
      obtain ⟨hjun, oj, hoj, hall⟩ := mem_ready.1 hj
      have hnot : ∀ e ∈ oj.after, Region.binds md e = true → e.on ≠ i := fun e he hb heq => by
        have h1 := hall e he hb
        have h0 := (mem_ready.1 hr).1
        rw [heq] at h1
        rcases Nat.lt_or_ge i listed.size with h' | h'
        · simp [h'] at h0 h1; rw [h0] at h1; cases h1
        · simp [Array.getElem?_eq_none h'] at h1
      have h2 := wpOp_putIf hoj (hfree j oj hoj hji hjun hnot) (fun cs b => hsel i oi cs b hi) (fun cs b => hsel j oj cs b hoj) hQ hy h1
      have hfree' : ∀ k ok, ops[k]? = some ok → k ≠ i → (listed.setIfInBounds j true).getD k true = false →
          (∀ e ∈ ok.after, Region.binds md e = true → e.on ≠ i) → oi.apart ops ok = true := fun k ok hk hki hun hno => by
        refine hfree k ok hk hki ?_ hno
        by_cases hjk : j = k
        · subst hjk; exact hjun
        · rw [getD_set_ne9 hjk] at hun; exact hun
      refine wpOp_mono (fun a' w' h3 => ?_) h2
      have hS' : (listed.setIfInBounds j true).getD z true = false → S w' := fun h => h3.2.1 (by
        rw [Array.setIfInBounds_comm _ _ (Ne.symm hji), getD_set_ne9 (fun e => hne e.symm)]; exact h)
      refine ⟨hS', ih (listed.setIfInBounds j true) a' w' hfree' (ready_mono hr (Ne.symm hji)) h3.1 hS' ?_⟩
      rw [Array.setIfInBounds_comm _ _ hji]
      exact h3.2.2
/-- does z wait for i? -/
def waitsB (md : Region.Mode) (ops : Array Oper) (z i : Nat) : Bool := match ops[z]? with
  | some o => o.after.any fun e => Region.binds md e && (e.on == i)
  | none => false
theorem waits_spec {i : Nat} (h : waitsB md ops z i = true) : ∃ oz, ops[z]? = some oz ∧ ∃ e ∈ oz.after, Region.binds md e = true ∧ e.on = i := by
  unfold waitsB at h
  split at h
  · rename_i o ho
    rw [Array.any_eq_true] at h
    obtain ⟨k, hk, h⟩ := h
    rw [Bool.and_eq_true, beq_iff_eq] at h
    exact ⟨o, ho, _, Array.getElem_mem hk, h⟩
  · cases h
end
section
variable {P : Program} {ops : Array Oper} {Q : Exit → Act → World → Prop} {S : World → Prop} {z : Nat}
theorem take_t {i : Nat} {oi : Oper} {d : Option Tmp} {v : Value} {fuel : Nat} {listed : Array Bool} {a : Act} {w : World} (hi : ops[i]? = some oi)
    (hs : Region.noSelect ops = true) (hf : Region.free .any ops listed i = true) (hr : (Region.ready .any ops listed).contains i = true) (hz : (waitsB .any ops z i && !(z == i) && !listed.getD z true) = true)
    (hQ : ∀ c a w, Q (.panic c) (a.put d v) w → Q (.panic c) a w) (hd : oi.dst = d) (hw : Region.wanted oi (yielded ops a.tmps) = true) (hy : ∀ w, S w → (execOp a.eval oi).run P w = .ok (.value v) w) (hS : S w)
    (h : wpAnyT P .any ops Q S z fuel (listed.setIfInBounds i true) (a.put d v) w) : wpAnyT P .any ops Q S z (fuel + 1) listed a w := by
  subst hd
  rw [Bool.and_eq_true, Bool.and_eq_true] at hz
  obtain ⟨⟨h1, h2⟩, h3⟩ := hz
  obtain ⟨oz, hoz, hzi⟩ := waits_spec h1
  exact wpAnyT_first hi (Region.noSelect_spec hs) hQ hoz hzi (by simpa using h2) fuel listed a w (Region.free_spec hi hf) (by simpa using hr) (by simpa using h3) (.inl ⟨hw, hy⟩) hS h
theorem take_y {i : Nat} {oi : Oper} {d : Option Tmp} {v : Value} {fuel : Nat} {listed : Array Bool} {a : Act} {w : World} (hi : ops[i]? = some oi)
    (hs : Region.noSelect ops = true) (hf : Region.free .any ops listed i = true) (hr : (Region.ready .any ops listed).contains i = true) (hz : (z == i) = false)
    (hQ : ∀ c a w, Q (.panic c) (a.put d v) w → Q (.panic c) a w) (hd : oi.dst = d) (hw : Region.wanted oi (yielded ops a.tmps) = true) (hy : ∀ w, (execOp a.eval oi).run P w = .ok (.value v) w) (hS : S w)
    (h : wpAnyT P .any ops Q S z fuel (listed.setIfInBounds i true) (a.put d v) w) : wpAnyT P .any ops Q S z (fuel + 1) listed a w := by
  subst hd
  exact wpAnyT_firstY hi (Region.noSelect_spec hs) hQ (by simpa using hz) fuel listed a w (Region.free_spec hi hf) (by simpa using hr) (.inl ⟨hw, fun w _ => hy w⟩) (fun _ => hS) h
theorem call_t {i : Nat} {o : Oper} {fuel : Nat} {listed : Array Bool} {a : Act} {w : World} (ho : ops[i]? = some o) (hr : Region.ready .any ops listed = [i])
    (hw : Region.wanted o (yielded ops a.tmps) = true)
    (h : ∀ K' : Act → World → Prop, Shut (∀ a w, ((listed.setIfInBounds i true).getD z true = false → S w) → wpAnyT P .any ops Q S z fuel (listed.setIfInBounds i true) a w → K' a w) → Oper.wp P o a w K' Q) :
    wpAnyT P .any ops Q S z (fuel + 1) listed a w := by
  refine ⟨fun h0 => (by rw [hr] at h0; cases h0), fun j hj => ?_⟩
  rw [hr] at hj
  obtain rfl : j = i := by simpa using hj
  exact wpOp_step ho (fun K' hK => by rw [if_pos hw]; exact h K' fun a w h1 h2 => hK a w ⟨h1, h2⟩)
theorem done_t {listed : Array Bool} {a : Act} {w : World} (hr : Region.ready .any ops listed = []) (h : Q .normal a w) :
    ∀ fuel, wpAnyT P .any ops Q S z fuel listed a w
  | 0 => ⟨hr, h⟩
  | _ + 1 => ⟨fun _ => h, by rw [hr]; simp⟩
theorem begin_t {id : Nat} {a : Act} {w : World} (hm : P.follows .mixedOrders = true) (hS : S w.drew)
    (h : S w.drew → wpAnyT P .any ops Q S z ops.size (Array.replicate ops.size false) a w.drew) : (Code.region id ops true).wp P Q a w :=
  wp_region_any hm (wpAny_of_till _ _ _ _ (h hS))
end
end Go.Proofs.YtnifmfdlocgefaaGreat.Kit

namespace Go.Proofs.YtnifmfdlocgefaaGreat.Hs
open Go.RowKit Kit

def KeyedPost (ks : List (List Int)) (sl : List Int) (w : World) (e : Ending) (w' : World) : Prop :=
  ∃ A c S d, e = .returned (.agg #[.slice A ks.length c, .slice S sl.length d]) ∧ (∀ W : World, (∀ p : Addr, w.heap.size ≤ p.block → p.block < w'.heap.size → W.cell? p = w'.cell? p) → Keys W w'.heap.size A ks ∧ Ints W w'.heap.size S sl) ∧ Q w w' ∧ ks.length ≤ c
set_option maxRecDepth 100000 in
set_option maxHeartbeats 2000000 in
theorem keyed_any (A S : Option Addr) (n c m d : Nat) (kz : List (List Int)) (sl : List Int) (w : World) (hn : n = kz.length) (hm : m = sl.length) (hk : Keys w w.heap.size A kz) (hS : Ints w w.heap.size S sl) (hl : kz.length ≤ 40000) (ht : kz.flatten.length ≤ 400000) (hsl : sl.length ≤ 100000) :
    Calls Tryz.prog 157 #[.agg #[.slice A n c, .slice S m d]] w (KeyedPost kz sl w) := by
  subst hn hm
  have q0 := ((Q.refl w).alloc (Obj.cells #[Value.slice A kz.length c, Value.slice S sl.length d] 26)).alloc (Obj.cells #[Value.slice none 0 0, Value.slice none 0 0] 26)
  have HQ0 := Lib.hid q0
  have HB := Lib.hid (TwoB.new w (Value.slice A kz.length c) (Value.slice S sl.length d) (Value.slice none 0 0) (Value.slice none 0 0) 26 26)
  have CK0 : Hid (∀ U : World, Q w U → Calls Tryz.prog 226 #[.slice A kz.length c, .slice none 0 0] U (CopyPost kz U)) := fun U q => by
    have h := copyKeys_any A none kz.length c 0 0 kz [] U rfl rfl ((hk.q (Nat.le_refl _) q).more q.size) (fun h => absurd h (by simp)) (by rw [List.append_nil]; exact hl) (by rw [List.append_nil]; exact ht)
    rw [List.append_nil] at h
    exact h
  have CC0 : Hid (∀ U : World, Q w U → Calls Tryz.prog 103 #[.slice S sl.length d] U (ClonePost sl U)) := fun U q => clone_any S _ d sl U rfl ((hS.q (Nat.le_refl _) q).more q.size) hsl
  clear hk hS ht q0
  go_enter Tryz.func157, Tryz.ntmps157
  go_upto_region 1 with fail
  have CK := Lib.hid (fun (U : World) (q : Q ((w.alloc (Obj.cells #[Value.slice A kz.length c, Value.slice S sl.length d] 26)).alloc (Obj.cells #[Value.slice none 0 0, Value.slice none 0 0] 26)) U) => CK0.out U (HQ0.out.trans q))
  have CC := Lib.hid (fun (U : World) (q : Q ((w.alloc (Obj.cells #[Value.slice A kz.length c, Value.slice S sl.length d] 26)).alloc (Obj.cells #[Value.slice none 0 0, Value.slice none 0 0] 26)) U) => CC0.out U (HQ0.out.trans q))
  clear CK0 CC0
  generalize (w.alloc (Obj.cells #[Value.slice A kz.length c, Value.slice S sl.length d] 26)).alloc (Obj.cells #[Value.slice none 0 0, Value.slice none 0 0] 26) = W0 at *
  refine begin_t (S := fun U => U.cell? ⟨w.heap.size, 0, none⟩ = some (.slice A kz.length c) ∧ U.cell? ⟨w.heap.size, 1, none⟩ = some (.slice S sl.length d)) (z := 7) (by kernel_rfl) ?_ (fun hHeld => ?_)
  · exact ⟨((HB.out.q ((Q.refl W0).drew)).c0), ((HB.out.q ((Q.refl W0).drew)).c1)⟩
  refine take_y (i := 0) (d := some 3) (v := ?_) rfl (by kernel_rfl) (by kernel_rfl) (by kernel_rfl) (by kernel_rfl) (fun _ _ _ h => h) rfl (by rfl) ?_ (by assumption) ?_
  rotate_left
  · (intro w; go_simp; (try with_reducible rfl))
  try simp only [Act.put, List.setIfInBounds_toArray, List.set_cons_zero, List.set_cons_succ]
  refine take_t (i := 1) (d := some 4) (v := ?_) rfl (by kernel_rfl) (by kernel_rfl) (by kernel_rfl) (by kernel_rfl) (fun _ _ _ h => h) rfl (by rfl) ?_ (by assumption) ?_
  rotate_left
  · (intro w hSw; (try dsimp only at hSw); go_simp; (try with_reducible rfl))
  try simp only [Act.put, List.setIfInBounds_toArray, List.set_cons_zero, List.set_cons_succ]
  refine take_y (i := 3) (d := some 6) (v := ?_) rfl (by kernel_rfl) (by kernel_rfl) (by kernel_rfl) (by kernel_rfl) (fun _ _ _ h => h) rfl (by rfl) ?_ (by assumption) ?_
  rotate_left
  · (intro w; go_simp; (try with_reducible rfl))
  try simp only [Act.put, List.setIfInBounds_toArray, List.set_cons_zero, List.set_cons_succ]
  refine take_t (i := 4) (d := some 7) (v := ?_) rfl (by kernel_rfl) (by kernel_rfl) (by kernel_rfl) (by kernel_rfl) (fun _ _ _ h => h) rfl (by rfl) ?_ (by assumption) ?_
  rotate_left
  · (intro w hSw; (try dsimp only at hSw); go_simp; (try with_reducible rfl))
  try simp only [Act.put, List.setIfInBounds_toArray, List.set_cons_zero, List.set_cons_succ]
  refine call_t (i := 2) rfl (by kernel_rfl) (by rfl) (fun K hK => ?_)
  go_simp
  go_at_call 226
  refine (CK.out _ (Q.refl W0).drew).mono ?_
  rintro e w2 ⟨A2, c2, rfl, hK2, q2, hcp2⟩
  have HK2 := Lib.hid hK2
  have Hcp2 := Lib.hid hcp2
  have HQ2 : Hid (Q W0 w2) := Lib.hid ((Q.refl W0).drew.trans q2)
  have Hq2 := Lib.hid q2
  clear hK2 hcp2 q2
  have hHeld : ((fun U => U.cell? ⟨w.heap.size, 0, none⟩ = some (.slice A kz.length c) ∧ U.cell? ⟨w.heap.size, 1, none⟩ = some (.slice S sl.length d)) : World → Prop) _ := ⟨((HB.out.q (HQ2.out)).c0), ((HB.out.q (HQ2.out)).c1)⟩
  refine hK.out _ _ (fun _ => hHeld) ?_
  clear hK K
  try simp only [Act.put, List.setIfInBounds_toArray, List.set_cons_zero, List.set_cons_succ]
  refine call_t (i := 5) rfl (by kernel_rfl) (by rfl) (fun K hK => ?_)
  go_simp
  go_at_call 103
  refine (CC.out _ HQ2.out).mono ?_
  rintro e w3 ⟨S3, d3, rfl, hS3, q3⟩
  have HS3 := Lib.hid hS3
  have Hq3 := Lib.hid q3
  have HQ3 : Hid (Q W0 w3) := Lib.hid (HQ2.out.trans q3)
  have r0 := (HB.out.q HQ3.out).r0
  have r1 := (HB.out.q HQ3.out).r1
  have f0 := (HB.out.q HQ3.out).f0
  have f1 := (HB.out.q HQ3.out).f1
  clear hS3 q3
  have hHeld : ((fun U => U.cell? ⟨w.heap.size, 0, none⟩ = some (.slice A kz.length c) ∧ U.cell? ⟨w.heap.size, 1, none⟩ = some (.slice S sl.length d)) : World → Prop) _ := ⟨((HB.out.q (HQ3.out)).c0), ((HB.out.q (HQ3.out)).c1)⟩
  refine hK.out _ _ (fun _ => hHeld) ?_
  clear hK K
  try simp only [Act.put, List.setIfInBounds_toArray, List.set_cons_zero, List.set_cons_succ]
  refine take_y (i := 6) (d := some 9) (v := ?_) rfl (by kernel_rfl) (by kernel_rfl) (by kernel_rfl) (by kernel_rfl) (fun _ _ _ h => h) rfl (by rfl) ?_ (by assumption) ?_
  rotate_left
  · (intro w; go_simp; (try with_reducible rfl))
  try simp only [Act.put, List.setIfInBounds_toArray, List.set_cons_zero, List.set_cons_succ]
  refine call_t (i := 7) rfl (by kernel_rfl) (by rfl) (fun K hK => ?_)
  go_simp
  refine hK.out _ _ (fun hz => by cases hz) ?_
  clear hK K
  try simp only [Act.put, List.setIfInBounds_toArray, List.set_cons_zero, List.set_cons_succ]
  refine done_t (by kernel_rfl) ?_ _
  obtain ⟨y0, y1, yq⟩ := set_two (w := w) (u := .slice A2 kz.length c2) (v := .slice S3 sl.length d3) r0 r1
  have hB := HB.out.lt
  have hz0 := (Q.refl W0).drew.size
  have hz1 := Hq2.out.size
  have hz2 := Hq3.out.size
  have hs : ((w3.setCell ⟨w.heap.size + 1, 0, none⟩ (.slice A2 kz.length c2)).setCell ⟨w.heap.size + 1, 1, none⟩ (.slice S3 sl.length d3)).heap.size = w3.heap.size := by simp [World.setCell]
  go_wp2_with fail
  refine bodyPost_ret (v := .agg #[.slice A2 kz.length c2, .slice S3 sl.length d3]) (by simp [results, Tryz.f157, go_sem, y0, y1]) rfl ⟨A2, c2, S3, d3, rfl, fun W hWW => ?_, yq (HQ0.out.trans HQ3.out), Hcp2.out⟩
  rw [hs] at hWW ⊢
  have ho : ∀ p : Addr, W0.heap.size ≤ p.block → p.block < w3.heap.size → W.cell? p = w3.cell? p := fun p h1 h2 => (hWW p (by have := HQ0.out.size; omega) h2).trans (set_two_other _ _ _ _ _ (by omega))
  refine ⟨(HK2.out W fun p h1 h2 => ?_).more hz2, clone_intsF HS3.out (Q.refl w3) rfl fun p h1 h2 => ho p (by have : W0.heap.size ≤ w2.heap.size := Nat.le_trans hz0 hz1; omega) h2⟩
  have : W0.drew.heap.size = W0.heap.size := rfl
  rw [ho p (by omega) (by omega)]
  exact Hq3.out.cell h2
end Go.Proofs.YtnifmfdlocgefaaGreat.Hs

namespace Go.Proofs.YtnifmfdlocgefaaGreat.Tm
open Go.RowKit Kit Hs

def CloneP (vs : List Value) (w : World) (e : Ending) (w' : World) : Prop :=
  ∃ A c, e = .returned (.slice A vs.length c) ∧ vs.length ≤ c ∧ (0 < vs.length → ∃ g, A = some ⟨g, 0, none⟩ ∧ w.heap.size ≤ g ∧ g < w'.heap.size ∧ ∀ j u, vs[j]? = some u → w'.cell? ⟨g, j, none⟩ = some u ∧ w'.frozen? ⟨g, j, none⟩ = false) ∧ Q w w'

theorem cellsI_len (sl : List Int) : (cellsI sl).length = sl.length := by simp [cellsI]
def CopyOfPost (ks : List (List Int)) (sl : List Int) (w : World) (e : Ending) (w' : World) : Prop :=
  ∃ A c S d, e = .returned (.agg #[.slice A ks.length c, .slice S sl.length d]) ∧ (∀ W : World, (∀ p : Addr, w.heap.size ≤ p.block → p.block < w'.heap.size → W.cell? p = w'.cell? p) → Keys W w'.heap.size A ks ∧ Ints W w'.heap.size S sl) ∧ Q w w' ∧ ks.length ≤ c
theorem copyOf_any (A S : Option Addr) (n c m d : Nat) (ks : List (List Int)) (sl : List Int) (w : World) (hn : n = ks.length) (hm : m = sl.length) (hk : Keys w w.heap.size A ks) (hS : Ints w w.heap.size S sl) (hl : ks.length ≤ 40000) (ht : ks.flatten.length ≤ 400000) (hsl : sl.length ≤ 100000) :
    Calls Tryz.prog 157 #[.agg #[.slice A n c, .slice S m d]] w (CopyOfPost ks sl w) :=
  (keyed_any A S n c m d ks sl w hn hm hk hS hl ht hsl).mono fun _ _ h => h
end Go.Proofs.YtnifmfdlocgefaaGreat.Tm

namespace Go.Proofs.YtnifmfdlocgefaaGreat.Tm
open Go.RowKit Kit Hs

end Go.Proofs.YtnifmfdlocgefaaGreat.Tm

namespace Go.Proofs.YtnifmfdlocgefaaGreat.Tm
open Go.RowKit Kit Hs

/-- a row with its first k and its last k turned round -/
def rv (l : List Int) (k : Nat) : List Int := (List.range l.length).map fun p => if p < k ∨ l.length - k ≤ p then l[l.length - 1 - p]?.getD 0 else l[p]?.getD 0
end Go.Proofs.YtnifmfdlocgefaaGreat.Tm

namespace Go.Proofs.YtnifmfdlocgefaaGreat.Tm
open Go.RowKit Kit Hs

end Go.Proofs.YtnifmfdlocgefaaGreat.Tm

namespace Go.Proofs.YtnifmfdlocgefaaGreat.Tm
open Go.RowKit Kit Hs

def RowPost (xs : List Int) (w : World) (e : Ending) (w' : World) : Prop := ∃ A c, e = .returned (.slice A xs.length c) ∧ Ints w' w'.heap.size A xs ∧ Q w w'
theorem _root_.Go.Proofs.YtnifmfdlocgefaaGreat.Hs.Ints.back {w w' : World} {B : Nat} {A : Option Addr} {l : List Int} (h : Ints w' B A l) (hb : Below B w w') : Ints w B A l := fun h0 => by
  obtain ⟨ad, e, hlt, hc⟩ := h h0
  exact ⟨ad, e, hlt, fun i s hs => by rw [← hb.cell (by rw [add_block]; exact hlt)]; exact hc i s hs⟩
end Go.Proofs.YtnifmfdlocgefaaGreat.Tm

namespace Go.Proofs.YtnifmfdlocgefaaGreat.Tm
open Go.RowKit Kit Hs

def first3 : List (List Int) := [[0, 0, 0], [1, 0, 0]]
def NewPost (w : World) (e : Ending) (w' : World) : Prop :=
  ∃ A c S d, e = .returned (.agg #[.slice A 2 c, .slice S 8 d]) ∧ Keys w' w'.heap.size A first3 ∧ Ints w' w'.heap.size S (layI first3) ∧ Q w w'

end Go.Proofs.YtnifmfdlocgefaaGreat.Tm

namespace Go.Proofs.YtnifmfdlocgefaaGreat.Tm
open Go.RowKit Kit Hs

theorem keyOk_parts {l : List Sg.Sig} {key : List Int} {i : Nat} (h : keyOk l key i = true) : 3 ≤ key.length ∧ mayB l i (ofKey key) = true ∧ (i < 2 → (ofKey key).k = (i : Int)) := by
  unfold keyOk at h
  simp only [Bool.and_eq_true, decide_eq_true_eq, Bool.not_eq_true', Bool.and_eq_false_iff, decide_eq_false_iff_not, bne_eq_false_iff_eq] at h
  obtain ⟨⟨h1, h2⟩, h3⟩ := h
  exact ⟨h1, h2, fun hi => h3.resolve_left (by omega)⟩
theorem key_of {key : List Int} (h : 3 ≤ key.length) : (ofKey key).key = key := by
  rw [ofKey_at h]
  match key, h with
  | a :: b :: c :: r, _ => rfl
theorem Store.head {l : List Sg.Sig} {ks : List (List Int)} (h : Store l ks) {i : Nat} (hi : i < 2) : ks[i]? = some [(i : Int), 0, 0] := by
  have hlt : i < ks.length := by have := h.two; omega
  have hk := h.ok i _ (List.getElem?_eq_getElem hlt)
  obtain ⟨h3, hm, hk2⟩ := keyOk_parts hk
  have hkk := hk2 hi
  rw [List.getElem?_eq_getElem hlt, ← key_of h3]
  obtain ⟨t, ht⟩ : ∃ t, ofKey ks[i] = t := ⟨_, rfl⟩
  rw [ht] at hkk hm ⊢
  unfold mayB at hm
  simp only [Bool.and_eq_true] at hm
  obtain ⟨⟨hst, hha⟩, _⟩ := hm
  unfold standB at hst
  rw [if_neg (by omega), if_neg (by omega), if_neg (by omega)] at hst
  unfold hasB at hha
  rw [if_neg (by omega)] at hha
  simp only [Bool.and_eq_true, beq_iff_eq] at hst hha
  have hx : t.xs.length = 0 := by
    have h2 := hha.2
    unfold partsN at h2
    rw [if_neg (by omega), if_neg (by omega), if_neg (by omega)] at h2
    omega
  have hx' := List.eq_nil_of_length_eq_zero hx
  simp [Tm.key, hkk, hst.1, hst.2, hx']
theorem Store.first {l : List Sg.Sig} {ks : List (List Int)} (h : Store l ks) : ks.take 2 = first3 := by
  apply List.ext_getElem?
  intro i
  by_cases hi : i < 2
  · rw [List.getElem?_take, if_pos hi, h.head hi]
    match i, hi with
    | 0, _ => rfl
    | 1, _ => rfl
  · rw [List.getElem?_take, if_neg hi]
    exact (List.getElem?_eq_none (by simp [first3]; omega)).symm
theorem _root_.Go.Proofs.YtnifmfdlocgefaaGreat.Hs.Keys.take {w : World} {B : Nat} {A : Option Addr} {ks : List (List Int)} (h : Keys w B A ks) (n : Nat) : Keys w B A (ks.take n) := fun h0 => by
  obtain ⟨ad, e, hb, hc⟩ := h (by rw [List.length_take] at h0; omega)
  refine ⟨ad, e, hb, fun i k hk => hc i k ?_⟩
  rw [List.getElem?_take] at hk
  split at hk
  · exact hk
  · cases hk
end Go.Proofs.YtnifmfdlocgefaaGreat.Tm

namespace Go.Proofs.YtnifmfdlocgefaaGreat.Sg
open Go.ChangeShapes Go.WideShapes Go.RowKit Kit Go.Deep Go.Joins

section
variable {H : Type} {enc : TypeId × Value → H} {W : World} {base : Nat}
end
end Go.Proofs.YtnifmfdlocgefaaGreat.Sg

namespace Go.Proofs.YtnifmfdlocgefaaGreat.Tm
open Go.RowKit Kit Hs

end Go.Proofs.YtnifmfdlocgefaaGreat.Tm

namespace Go.Proofs.YtnifmfdlocgefaaGreat.Kit
open Go.RowKit

theorem run_copy_rows {P : Program} (w : World) (dT sT ty elem : TypeId) (sz : Nat) (g dLen dCap : Nat) (a : Addr) (sLen sCap : Nat) (cur : Array Value) (t : TypeId) (cs : List Value)
    (hu : P.underlying dT = some (.slice elem)) (hs : (P.info? elem).map (·.size) = some sz)
    (hg : w.heap[g]? = some (.cells cur t (0, 0))) (hn : cs.length = Nat.min sLen dLen * sz)
    (hsrc : ∀ j v, cs[j]? = some v → w.cell? (a.add j) = some v) (hfit : cs.length ≤ cur.size) (h1 : ∀ v ∈ cs, v.oneCell' = true) :
    (Builtin.copy_ #[dT, sT] ty #[.slice (some ⟨g, 0, none⟩) dLen dCap, .slice (some a) sLen sCap]).run P w =
      .ok (goInt (Nat.min sLen dLen)) (w.setRow g (cs ++ cur.toList.drop cs.length).toArray) := by
  have hl := run_loadCells_list (P := P) w a cs hsrc
  have hst := run_storeCells_at P g 0 t cs 0 cur w hg (by simpa using hfit) h1
  cases hq : P.info? elem with
  | none => simp [hq] at hs
  | some i =>
    have hi : i.size = sz := by simpa [hq] using hs
    simp [Builtin.copy_, run_underlying hu, Builtin.lenOf, Builtin.firstCells, sizeOf, typeInfo, hq, hi, ← hn, hl, hst]
theorem run_copy_rows_none {P : Program} (w : World) (dT sT ty elem : TypeId) (sz : Nat) (d a : Option Addr) (dLen dCap sLen sCap : Nat)
    (hu : P.underlying dT = some (.slice elem)) (hs : (P.info? elem).map (·.size) = some sz) (hn : Nat.min sLen dLen = 0) :
    (Builtin.copy_ #[dT, sT] ty #[.slice d dLen dCap, .slice a sLen sCap]).run P w = .ok (goInt 0) w := by
  cases hq : P.info? elem with
  | none => simp [hq] at hs
  | some i =>
    have hl : ∀ (x : Addr), (loadCells x 0).run P w = .ok #[] w := fun x => by simpa using run_loadCells_list (P := P) w x [] (by simp)
    cases d <;> cases a <;> simp [Builtin.copy_, run_underlying hu, Builtin.lenOf, Builtin.firstCells, sizeOf, typeInfo, hq, hn, storeCells, hl]

/-- copy(d, s) of n elements: d a block of the call's own, read from its head; s whatever, nil too -/
theorem run_copy_all {P : Program} (w : World) (dT sT ty elem : TypeId) (sz : Nat) (g n dCap : Nat) (sp : Option Addr) (sCap : Nat) (cur : Array Value) (t : TypeId) (cs : List Value)
    (hu : P.underlying dT = some (.slice elem)) (hs : (P.info? elem).map (·.size) = some sz) (hg : w.heap[g]? = some (.cells cur t (0, 0))) (hn : cs.length = n * sz) (hz : 0 < sz)
    (hsrc : 0 < cs.length → ∃ ad, sp = some ad ∧ ∀ j v, cs[j]? = some v → w.cell? (ad.add j) = some v) (hfit : cs.length ≤ cur.size) (h1 : ∀ v ∈ cs, v.oneCell' = true) :
    ∃ w', (Builtin.copy_ #[dT, sT] ty #[.slice (some ⟨g, 0, none⟩) n dCap, .slice sp n sCap]).run P w = .ok (.int .i64 n) w' ∧
      w'.heap[g]? = some (.cells (cs ++ cur.toList.drop cs.length).toArray t (0, 0)) ∧ w.grownBy w' (some g) := by
  have hm : Nat.min n n = n := Nat.min_self n
  by_cases h0 : cs.length = 0
  · obtain rfl : cs = [] := List.eq_nil_of_length_eq_zero h0
    have hm0 : n = 0 := by
      rcases Nat.eq_zero_or_pos n with e | e
      · exact e
      · have := Nat.mul_pos e hz
        simp at hn
        omega
    subst hm0
    exact ⟨w, run_copy_rows_none (P := P) w dT sT ty elem sz (some ⟨g, 0, none⟩) sp 0 dCap 0 sCap hu hs rfl, by simpa using hg, World.grownBy.refl w _⟩
  · obtain ⟨ad, rfl, hsrc'⟩ := hsrc (by omega)
    have hrun := run_copy_rows (P := P) w dT sT ty elem sz g n dCap ad n sCap cur t cs hu hs hg (by rw [hm]; exact hn) hsrc' hfit h1
    rw [hm] at hrun
    exact ⟨_, hrun, by simpa using setRow_heap w g _ _ t _ hg, ⟨rfl, rfl, rfl, by simp [World.setRow], fun k _ hne => setRow_other w g k _ (fun e => hne (by rw [e]))⟩⟩
end Go.Proofs.YtnifmfdlocgefaaGreat.Kit

namespace Go.Proofs.YtnifmfdlocgefaaGreat.Tr
open Go.RowKit Kit

/-- a slice value that reads these cells, below block B -/
def Rds (w : World) (B : Nat) (A : Option Addr) (cs : List Value) : Prop := 0 < cs.length → ∃ ad, A = some ad ∧ ad.block < B ∧ ∀ j v, cs[j]? = some v → w.cell? (ad.add j) = some v
theorem add_block (a : Addr) (n : Nat) : (a.add n).block = a.block := by unfold Addr.add; split <;> rfl
theorem add_succ (a : Addr) (n : Nat) : a.add (n + 1) = ⟨(a.add n).block, (a.add n).off + 1, none⟩ := by
  unfold Addr.add
  by_cases h : n = 0 <;> simp [h, Nat.add_assoc]
theorem add_zero_head (g j : Nat) : (⟨g, 0, none⟩ : Addr).add j = ⟨g, j, none⟩ := by
  unfold Addr.add
  by_cases h : j = 0 <;> simp [h]
theorem Rds.keep {w w' : World} {B : Nat} {A : Option Addr} {l : List Value} (h : Rds w B A l) (hb : Below B w w') : Rds w' B A l := fun h0 => by
  obtain ⟨ad, e, hlt, hc⟩ := h h0
  exact ⟨ad, e, hlt, fun i s hs => (hb.cell (by rw [add_block]; exact hlt)).trans (hc i s hs)⟩
theorem Rds.more {w : World} {B B' : Nat} {A : Option Addr} {l : List Value} (h : Rds w B A l) (hB : B ≤ B') : Rds w B' A l := fun h0 => by
  obtain ⟨ad, e, hlt, hc⟩ := h h0
  exact ⟨ad, e, by omega, hc⟩
theorem Rds.q {w w' : World} {A : Option Addr} {l : List Value} (h : Rds w w.heap.size A l) (q : Q w w') : Rds w' w'.heap.size A l := (h.keep q).more q.size
theorem Rds.nil (w : World) (B : Nat) (A : Option Addr) : Rds w B A [] := fun h => absurd h (by simp)

abbrev Note := Int × Int
def cellsI (l : List Int) : List Value := l.map (Value.int .i64)
def cellsP : List Note → List Value
  | [] => []
  | n :: l => .int .i64 n.1 :: .int .i64 n.2 :: cellsP l
theorem cellsI_len (l : List Int) : (cellsI l).length = l.length := by simp [cellsI]
theorem cellsI_one (l : List Int) : ∀ u ∈ cellsI l, u.oneCell' = true := fun u hu => by
  obtain ⟨x, _, rfl⟩ := List.mem_map.1 hu; rfl
theorem cellsI_at {l : List Int} {k : Nat} (h : k < l.length) : (cellsI l)[k]? = some (.int .i64 l[k]) := by simp [cellsI, h]
theorem cellsI_append (a b : List Int) : cellsI (a ++ b) = cellsI a ++ cellsI b := by simp [cellsI]
theorem cellsI_set (l : List Int) (k : Nat) (x : Int) : cellsI (l.set k x) = (cellsI l).set k (.int .i64 x) := by simp [cellsI]
theorem cellsP_len (l : List Note) : (cellsP l).length = l.length * 2 := by
  induction l with
  | nil => rfl
  | cons s l ih => simp [cellsP, ih]; omega
theorem cellsP_append (a b : List Note) : cellsP (a ++ b) = cellsP a ++ cellsP b := by
  induction a with
  | nil => rfl
  | cons s l ih => simp [cellsP, ih]
theorem cellsP_even (l : List Note) (i : Nat) : (cellsP l)[i * 2]? = l[i]?.map fun s => Value.int .i64 s.1 := by
  induction l generalizing i with
  | nil => simp [cellsP]
  | cons s l ih =>
    cases i with
    | zero => rfl
    | succ i => rw [show (i + 1) * 2 = i * 2 + 1 + 1 by omega]; simpa [cellsP] using ih i
theorem cellsP_odd (l : List Note) (i : Nat) : (cellsP l)[i * 2 + 1]? = l[i]?.map fun s => Value.int .i64 s.2 := by
  induction l generalizing i with
  | nil => simp [cellsP]
  | cons s l ih =>
    cases i with
    | zero => rfl
    | succ i => rw [show (i + 1) * 2 + 1 = i * 2 + 1 + 1 + 1 by omega]; simpa [cellsP] using ih i
theorem cellsP_one (l : List Note) : ∀ v ∈ cellsP l, v.oneCell' = true := by
  induction l with
  | nil => simp [cellsP]
  | cons s l ih => simp only [cellsP, List.mem_cons]; rintro v (rfl | rfl | h); exact rfl; exact rfl; exact ih v h
theorem Rds.int_at {w : World} {B : Nat} {A : Option Addr} {l : List Int} (h : Rds w B A (cellsI l)) {k : Nat} (hk : k < l.length) :
    ∃ ad, A = some ad ∧ ad.block < B ∧ w.cell? (ad.add k) = some (.int .i64 l[k]) := by
  obtain ⟨ad, e, hlt, hc⟩ := h (by rw [cellsI_len]; omega)
  exact ⟨ad, e, hlt, hc k _ (cellsI_at hk)⟩
theorem Rds.pair_at {w : World} {B : Nat} {A : Option Addr} {l : List Note} (h : Rds w B A (cellsP l)) {k : Nat} (hk : k < l.length) :
    ∃ ad, A = some ad ∧ ad.block < B ∧ w.cell? (ad.add (k * 2)) = some (.int .i64 l[k].1) ∧ w.cell? ⟨(ad.add (k * 2)).block, (ad.add (k * 2)).off + 1, none⟩ = some (.int .i64 l[k].2) := by
  obtain ⟨ad, e, hlt, hc⟩ := h (by rw [cellsP_len]; omega)
  refine ⟨ad, e, hlt, hc _ _ (by rw [cellsP_even, List.getElem?_eq_getElem hk]; rfl), ?_⟩
  rw [← add_succ]
  exact hc _ _ (by rw [cellsP_odd, List.getElem?_eq_getElem hk]; rfl)
theorem Rds.src {w : World} {B : Nat} {A : Option Addr} {l : List Value} (h : Rds w B A l) : Src w A l := fun h0 => by
  obtain ⟨ad, e, _, hc⟩ := h h0
  exact ⟨ad, e, hc⟩

/-- block g holds these cells, from its head on, and may be written -/
def OwnC (w : World) (g : Nat) (cs : List Value) : Prop := g < w.heap.size ∧ ∀ j v, cs[j]? = some v → w.cell? ⟨g, j, none⟩ = some v ∧ w.frozen? ⟨g, j, none⟩ = false
theorem OwnC.rds {w : World} {g : Nat} {cs : List Value} (h : OwnC w g cs) : Rds w w.heap.size (some ⟨g, 0, none⟩) cs := fun _ => ⟨_, rfl, h.1, fun j v hv => by rw [add_zero_head]; exact (h.2 j v hv).1⟩
theorem OwnC.q {w w' : World} {g : Nat} {cs : List Value} (h : OwnC w g cs) (q : Q w w') : OwnC w' g cs :=
  ⟨Nat.lt_of_lt_of_le h.1 q.size, fun i x hx => ⟨(q.cell (p := ⟨g, i, none⟩) h.1).trans (h.2 i x hx).1, (q.frozen (p := ⟨g, i, none⟩) h.1).trans (h.2 i x hx).2⟩⟩
theorem OwnC.far {w : World} {g : Nat} {cs : List Value} (h : OwnC w g cs) {b i : Nat} (hb : b ≠ g) (u : Value) : OwnC (w.setCell ⟨b, i, none⟩ u) g cs :=
  ⟨by simpa [World.setCell] using h.1, fun j v hv => ⟨(World.cell?_setCell_far _ _ _ _ hb).trans (h.2 j v hv).1, by rw [World.frozen?_setCell]; exact (h.2 j v hv).2⟩⟩
theorem OwnC.grown {w w' : World} {g : Nat} {cs : List Value} {row : Option Nat} (h : OwnC w g cs) (hg : w.grownBy w' row) (hr : row ≠ some g) : OwnC w' g cs := by
  have hb := hg.block g h.1 (fun e => hr e.symm)
  exact ⟨Nat.lt_of_lt_of_le h.1 hg.size, fun j v hv => ⟨(World.cell?_of_block (a := ⟨g, j, none⟩) hb).trans (h.2 j v hv).1, (World.frozen?_of_block (a := ⟨g, j, none⟩) hb).trans (h.2 j v hv).2⟩⟩
theorem OwnC.take {w : World} {g : Nat} {cs : List Value} (h : OwnC w g cs) (n : Nat) : OwnC w g (cs.take n) :=
  ⟨h.1, fun j v hv => h.2 j v (by rw [List.getElem?_take] at hv; split at hv; exact hv; cases hv)⟩
theorem setCell_ne {W : World} {B i j : Nat} {v u : Value} (h : i ≠ j) (hc : W.cell? ⟨B, j, none⟩ = some u) : (W.setCell ⟨B, i, none⟩ v).cell? ⟨B, j, none⟩ = some u := by
  have := World.cell?_setCell_other (w := W) (a := ⟨B, i, none⟩) (b := ⟨B, j, none⟩) (v := v) (by intro e; injection e with _ e; exact h e)
  exact this.trans hc
theorem setCell_eq {W : World} {B i : Nat} {v u : Value} (hc : W.cell? ⟨B, i, none⟩ = some u) : (W.setCell ⟨B, i, none⟩ v).cell? ⟨B, i, none⟩ = some v := World.cell?_setCell_same' _ _ _ (by rw [hc]; rfl)
theorem OwnC.set {w : World} {g : Nat} {cs : List Value} (h : OwnC w g cs) {s : Nat} (hs : s < cs.length) (v : Value) : OwnC (w.setCell ⟨g, s, none⟩ v) g (cs.set s v) := by
  refine ⟨by simp [World.setCell]; exact h.1, fun i x hx => ?_⟩
  rw [World.frozen?_setCell]
  by_cases hi : s = i
  · subst hi
    rw [List.getElem?_set_self hs] at hx
    obtain rfl : v = x := by simpa using hx
    have := h.2 s _ (List.getElem?_eq_getElem hs)
    exact ⟨setCell_eq this.1, this.2⟩
  · rw [List.getElem?_set_ne hi] at hx
    exact ⟨setCell_ne hi (h.2 i x hx).1, (h.2 i x hx).2⟩
theorem OwnC.of_row {w : World} {base g n cap size : Nat} {e : TypeId} {cs : List Value} (h : w.ownsRow base e size (.slice (some ⟨g, 0, none⟩) n cap) n cs) : OwnC w g cs := by
  refine ⟨(h.lt g rfl).2, fun j v hv => ⟨?_, h.frozenAt j⟩⟩
  have := h.cells (g := g) rfl j v hv
  rwa [add_zero_head] at this
theorem setCell_grown (w : World) (g j : Nat) (u : Value) : w.grownBy (w.setCell ⟨g, j, none⟩ u) (some g) :=
  ⟨rfl, rfl, rfl, by simp [World.setCell], fun k _ hk => heap_setCell_other w ⟨g, j, none⟩ k u (fun e => hk (by simp [e]))⟩
theorem grown_trans {a b c : World} {row : Option Nat} (h : a.grownBy b row) (k : b.grownBy c row) : a.grownBy c row :=
  ⟨k.os.trans h.os, k.tape.trans h.tape, k.output.trans h.output, Nat.le_trans h.size k.size, fun i hi hr => (k.block i (Nat.lt_of_lt_of_le hi h.size) hr).trans (h.block i hi hr)⟩
theorem grows_q {a b : World} (q : Q a b) (row : Option Nat) : a.grownBy b row := ⟨q.os, q.tape, q.output, q.size, fun i hi _ => q.block i hi⟩
theorem grown_q {a b : World} {g : Nat} (h : a.grownBy b (some g)) {W : World} (hq : Q W a) (hg : W.heap.size ≤ g) : Q W b := Below.grown hq h hq.size (fun k e => by injection e with e; omega)

structure Cells where
  V : List Int
  N : List Note
  M : List Int
def back1 (n : Note) (v : List Int) : Option (List Int) := if n.1 = -1 then (if v.length = 0 then none else some (v.take (v.length - 1))) else if 0 ≤ n.1 ∧ n.1 < v.length then some (v.set n.1.toNat n.2) else none
/-- the notes of this row are taken back, the first one first -/
def backR : List Note → List Int → Option (List Int)
  | [], v => some v
  | n :: l, v => (back1 n v).bind (backR l)
/-- the notes from the m-th on are taken back, the last one first -/
def backs (N : List Note) (V : List Int) : Option (List Int) := backR N.reverse V
theorem take_rev (N : List Note) (k : Nat) (h : k < N.length) : (N.take (k + 1)).reverse = N[k] :: (N.take k).reverse := by
  rw [List.take_succ_eq_append_getElem h, List.reverse_append]; rfl
theorem backR_at (N : List Note) (k : Nat) (h : k < N.length) (v : List Int) : backR (N.take (k + 1)).reverse v = (back1 N[k] v).bind (backR (N.take k).reverse) := by rw [take_rev N k h]; rfl
/-- marks: from p on they don't fall, and are n at most -/
def mkB (n : Int) (p : Int) : List Int → Bool
  | [] => true
  | x :: l => decide (p ≤ x) && decide (x ≤ n) && mkB n x l
theorem mkB_at (n p : Int) (M : List Int) (k : Nat) (h : k < M.length) : mkB n p (M.drop k) = (decide (p ≤ M[k]) && decide (M[k] ≤ n) && mkB n M[k] (M.drop (k + 1))) := by
  rw [List.drop_eq_getElem_cons h]; rfl
theorem mkB_end (n p : Int) (M : List Int) (k : Nat) (h : M.length ≤ k) : mkB n p (M.drop k) = true := by
  rw [List.drop_eq_nil_of_le h]; rfl
def rightB (c : Cells) : Bool := mkB c.N.length 0 c.M && (backs c.N c.V).isSome
set_option maxHeartbeats 400000 in
theorem place_any (a m : Int) (w : World) : Calls Tryz.prog 265 #[.int .i64 a, .int .i64 m] w fun e w' => e = .returned (.bool (decide (0 ≤ a) && decide (a < m))) ∧ w = w' := by
  by_cases h : 0 ≤ a
  · have hd : decide (0 ≤ a) = true := decide_eq_true h
    rw [hd]
    go_enter Tryz.func265, Tryz.ntmps265
    go_wp2_with fail
    go_ret
    exact ⟨rfl, rfl⟩
  · have hd : decide (0 ≤ a) = false := decide_eq_false h
    rw [hd]
    go_enter Tryz.func265, Tryz.ntmps265
    go_wp2_with fail
    go_ret
    exact ⟨rfl, rfl⟩

theorem intInfo : (Tryz.prog.info? 3).map (fun i => (i.zero, i.size, i.bytes)) = some (some (.int .i64 0), 1, 8) := by kernel_rfl
theorem noteInfo : (Tryz.prog.info? 195).map (fun i => (i.zero, i.size, i.bytes)) = some (some (.agg #[.int .i64 0, .int .i64 0]), 2, 16) := by kernel_rfl
/-- a copy: in a block of its own, with room for one more -/
def CopyRow (E : TypeId) (size n : Nat) (cs : List Value) (w : World) (e : Ending) (w' : World) : Prop :=
  ∃ g, e = .returned (.slice (some ⟨g, 0, none⟩) n (n + 1)) ∧ w'.ownsRow w.heap.size E size (.slice (some ⟨g, 0, none⟩) n (n + 1)) n cs ∧ Q w w'

set_option maxRecDepth 100000 in
set_option maxHeartbeats 1000000 in
theorem copyI_any (A : Option Addr) (n c : Nat) (l : List Int) (w : World) (hn : n = l.length) (hr : Rds w w.heap.size A (cellsI l)) (hl : l.length ≤ 1000000) :
    Calls Tryz.prog 308 #[.slice A n c] w (CopyRow 3 1 l.length (cellsI l) w) := by
  subst hn
  obtain ⟨i0, hi, hz0, hz1, hz2⟩ := info_parts intInfo
  have hmk : ∀ u : World, (Instr.makeSlice 24 (.int .i64 (l.length : Int)) (.int .i64 ((l.length : Int) + 1))).run Tryz.prog u =
      .ok (.slice (some ⟨u.heap.size, 0, none⟩) l.length (l.length + 1)) (u.alloc (.cells (madeCells #[.int .i64 0] (l.length + 1)) 3)) := fun u => by
    have h := run_make (P := Tryz.prog) u 24 3 i0 _ Tryz.underlying24 hi hz0 .i64 .i64 (l.length : Int) ((l.length : Int) + 1) (by omega) (by omega) (by rw [hz2]; omega) (by omega)
    have e1 : ((l.length : Int) + 1).toNat = l.length + 1 := by omega
    have e2 : ((l.length : Int)).toNat = l.length := by omega
    rw [e1, e2, hz1, Nat.mul_one] at h
    exact h
  have hsz : (Tryz.prog.info? 3).map (·.size) = some 1 := by rw [hi]; simp [hz1]
  have q1 := (Q.refl w).alloc (Obj.cells (madeCells #[.int .i64 0] (l.length + 1)) 3)
  have hr' := hr.q q1
  have hlen : (cellsI l).length = l.length * 1 := by simp [cellsI_len]
  obtain ⟨w2, hcp, hg2, hgr⟩ := run_copy_all (P := Tryz.prog) (w.alloc (Obj.cells (madeCells #[.int .i64 0] (l.length + 1)) 3))
    24 24 3 3 1 w.heap.size l.length (l.length + 1) A c _ 3 (cellsI l) Tryz.underlying24 hsz (heap_alloc_new w _) hlen (by omega)
    (fun h0 => by obtain ⟨ad, e, _, hc⟩ := hr' h0; exact ⟨ad, e, hc⟩) (by rw [hlen, size_madeCells]; omega) (cellsI_one l)
  clear hsz hi hz0 hz1 hz2 hr'
  have q2 : Q w w2 := q1.grown hgr (by simp) (by simp)
  have own2 : Hid (w2.ownsRow w.heap.size 3 1 (.slice (some ⟨w.heap.size, 0, none⟩) l.length (l.length + 1)) l.length (cellsI l)) :=
    ⟨hlen, .inr ⟨_, _, _, rfl, by omega, hg2, by omega, by unfold maxLen; omega, by simp [hlen, size_madeCells], by rw [← hlen]; simp⟩⟩
  clear hg2 hgr hr hlen q1
  go_enter Tryz.func308, Tryz.ntmps308
  go_wp2_with fail
  go_ret
  exact ⟨w.heap.size, rfl, own2.out, q2⟩

set_option maxRecDepth 100000 in
set_option maxHeartbeats 1000000 in
theorem copyP_any (A : Option Addr) (n c : Nat) (l : List Note) (w : World) (hn : n = l.length) (hr : Rds w w.heap.size A (cellsP l)) (hl : l.length ≤ 1000000) :
    Calls Tryz.prog 309 #[.slice A n c] w (CopyRow 195 2 l.length (cellsP l) w) := by
  subst hn
  obtain ⟨i0, hi, hz0, hz1, hz2⟩ := info_parts noteInfo
  have hmk : ∀ u : World, (Instr.makeSlice 27 (.int .i64 (l.length : Int)) (.int .i64 ((l.length : Int) + 1))).run Tryz.prog u =
      .ok (.slice (some ⟨u.heap.size, 0, none⟩) l.length (l.length + 1)) (u.alloc (.cells (madeCells #[.int .i64 0, .int .i64 0] ((l.length + 1) * 2)) 195)) := fun u => by
    have h := run_make (P := Tryz.prog) u 27 195 i0 _ Tryz.underlying27 hi hz0 .i64 .i64 (l.length : Int) ((l.length : Int) + 1) (by omega) (by omega) (by rw [hz2]; omega) (by omega)
    have e1 : ((l.length : Int) + 1).toNat = l.length + 1 := by omega
    have e2 : ((l.length : Int)).toNat = l.length := by omega
    rw [e1, e2, hz1] at h
    exact h
  have hsz : (Tryz.prog.info? 195).map (·.size) = some 2 := by rw [hi]; simp [hz1]
  have q1 := (Q.refl w).alloc (Obj.cells (madeCells #[.int .i64 0, .int .i64 0] ((l.length + 1) * 2)) 195)
  have hr' := hr.q q1
  have hlen : (cellsP l).length = l.length * 2 := by rw [cellsP_len]
  obtain ⟨w2, hcp, hg2, hgr⟩ := run_copy_all (P := Tryz.prog) (w.alloc (Obj.cells (madeCells #[.int .i64 0, .int .i64 0] ((l.length + 1) * 2)) 195))
    27 27 3 195 2 w.heap.size l.length (l.length + 1) A c _ 195 (cellsP l) Tryz.underlying27 hsz (heap_alloc_new w _) hlen (by omega)
    (fun h0 => by obtain ⟨ad, e, _, hc⟩ := hr' h0; exact ⟨ad, e, hc⟩) (by rw [hlen, size_madeCells]; omega) (cellsP_one l)
  clear hsz hi hz0 hz1 hz2 hr'
  have q2 : Q w w2 := q1.grown hgr (by simp) (by simp)
  have own2 : Hid (w2.ownsRow w.heap.size 195 2 (.slice (some ⟨w.heap.size, 0, none⟩) l.length (l.length + 1)) l.length (cellsP l)) :=
    ⟨hlen, .inr ⟨_, _, _, rfl, by omega, hg2, by omega, by unfold maxLen; omega, by simp [hlen, size_madeCells]; omega, by rw [← hlen]; simp⟩⟩
  clear hg2 hgr hr hlen q1
  go_enter Tryz.func309, Tryz.ntmps309
  go_wp2_with fail
  go_ret
  exact ⟨w.heap.size, rfl, own2.out, q2⟩

end Go.Proofs.YtnifmfdlocgefaaGreat.Tr

namespace Go.Proofs.YtnifmfdlocgefaaGreat.Tr
open Go.RowKit Kit

/-- a box of three cells -/
structure Box3 (W : World) (B : Nat) (a b c : Value) : Prop where
  c0 : W.cell? ⟨B, 0, none⟩ = some a
  c1 : W.cell? ⟨B, 1, none⟩ = some b
  c2 : W.cell? ⟨B, 2, none⟩ = some c
  f0 : W.frozen? ⟨B, 0, none⟩ = false
  f1 : W.frozen? ⟨B, 1, none⟩ = false
  f2 : W.frozen? ⟨B, 2, none⟩ = false
  lt : B < W.heap.size
theorem Box3.three {W : World} {B : Nat} {a b c : Value} (h : Box3 W B a b c) : W.cell? ⟨B, 0, none⟩ = some a ∧ W.cell? ⟨B, 1, none⟩ = some b ∧ W.cell? ⟨B, 2, none⟩ = some c := ⟨h.c0, h.c1, h.c2⟩
theorem Box3.keep {W W' : World} {B : Nat} {a b c : Value} (h : Box3 W B a b c) (hb : W'.heap[B]? = W.heap[B]?) (hs : W.heap.size ≤ W'.heap.size) : Box3 W' B a b c :=
  ⟨(World.cell?_of_block (a := ⟨B, 0, none⟩) hb).trans h.c0, (World.cell?_of_block (a := ⟨B, 1, none⟩) hb).trans h.c1, (World.cell?_of_block (a := ⟨B, 2, none⟩) hb).trans h.c2,
    (World.frozen?_of_block (a := ⟨B, 0, none⟩) hb).trans h.f0, (World.frozen?_of_block (a := ⟨B, 1, none⟩) hb).trans h.f1, (World.frozen?_of_block (a := ⟨B, 2, none⟩) hb).trans h.f2, Nat.lt_of_lt_of_le h.lt hs⟩
theorem Box3.q {W W' : World} {B : Nat} {a b c : Value} (h : Box3 W B a b c) (q : Q W W') : Box3 W' B a b c := h.keep (q.block B h.lt) q.size
theorem Box3.grown {W W' : World} {B g : Nat} {a b c : Value} (h : Box3 W B a b c) (hg : W.grownBy W' (some g)) (hne : g ≠ B) : Box3 W' B a b c := h.keep (hg.block B h.lt (fun e => hne (by injection e with e; exact e.symm))) hg.size
theorem Box3.new (w : World) (a b c : Value) (t : TypeId) : Box3 (w.alloc (.cells #[a, b, c] t)) w.heap.size a b c := ⟨by simp, by simp, by simp, by simp, by simp, by simp, by simp⟩
theorem Box3.far {W : World} {B : Nat} {a b c : Value} (h : Box3 W B a b c) {g i : Nat} (hg : g ≠ B) (v : Value) : Box3 (W.setCell ⟨g, i, none⟩ v) B a b c := h.grown (setCell_grown W g i v) hg
theorem Box3.set0 {W : World} {B : Nat} {a b c : Value} (h : Box3 W B a b c) (v : Value) : Box3 (W.setCell ⟨B, 0, none⟩ v) B v b c :=
  ⟨setCell_eq h.c0, setCell_ne (by omega) h.c1, setCell_ne (by omega) h.c2, by rw [World.frozen?_setCell]; exact h.f0, by rw [World.frozen?_setCell]; exact h.f1, by rw [World.frozen?_setCell]; exact h.f2, by simpa [World.setCell] using h.lt⟩
theorem Box3.set1 {W : World} {B : Nat} {a b c : Value} (h : Box3 W B a b c) (v : Value) : Box3 (W.setCell ⟨B, 1, none⟩ v) B a v c :=
  ⟨setCell_ne (by omega) h.c0, setCell_eq h.c1, setCell_ne (by omega) h.c2, by rw [World.frozen?_setCell]; exact h.f0, by rw [World.frozen?_setCell]; exact h.f1, by rw [World.frozen?_setCell]; exact h.f2, by simpa [World.setCell] using h.lt⟩
theorem Box3.set2 {W : World} {B : Nat} {a b c : Value} (h : Box3 W B a b c) (v : Value) : Box3 (W.setCell ⟨B, 2, none⟩ v) B a b v :=
  ⟨setCell_ne (by omega) h.c0, setCell_ne (by omega) h.c1, setCell_eq h.c2, by rw [World.frozen?_setCell]; exact h.f0, by rw [World.frozen?_setCell]; exact h.f1, by rw [World.frozen?_setCell]; exact h.f2, by simpa [World.setCell] using h.lt⟩
theorem Box3.all {W : World} {B : Nat} {a b c : Value} (h : Box3 W B a b c) (x y z : Value) : Box3 (((W.setCell ⟨B, 0, none⟩ x).setCell ⟨B, 1, none⟩ y).setCell ⟨B, 2, none⟩ z) B x y z := ((h.set0 x).set1 y).set2 z
/-- what three stores into a box do to the rest -/
theorem set3_grown (W : World) (B : Nat) (x y z : Value) : W.grownBy (((W.setCell ⟨B, 0, none⟩ x).setCell ⟨B, 1, none⟩ y).setCell ⟨B, 2, none⟩ z) (some B) :=
  grown_trans (grown_trans (setCell_grown W B 0 x) (setCell_grown _ B 1 y)) (setCell_grown _ B 2 z)

/-- the value of cells, in memory -/
structure Rd (w : World) (c : Cells) (A : Option Addr) (k1 : Nat) (D : Option Addr) (k2 : Nat) (E : Option Addr) (k3 : Nat) : Prop where
  v : Rds w w.heap.size A (cellsI c.V)
  n : Rds w w.heap.size D (cellsP c.N)
  m : Rds w w.heap.size E (cellsI c.M)
  lv : c.V.length ≤ k1
  ln : c.N.length ≤ k2
  lm : c.M.length ≤ k3
theorem Rd.q {w w' : World} {c : Cells} {A : Option Addr} {k1 : Nat} {D : Option Addr} {k2 : Nat} {E : Option Addr} {k3 : Nat} (h : Rd w c A k1 D k2 E k3) (q : Q w w') : Rd w' c A k1 D k2 E k3 :=
  ⟨h.v.q q, h.n.q q, h.m.q q, h.lv, h.ln, h.lm⟩
/-- cells are few -/
def Few (c : Cells) (m : Nat) : Prop := c.V.length ≤ m ∧ c.N.length ≤ m ∧ c.M.length ≤ m

/-- what a call answers: cells in three blocks of its own -/
structure Out (w w' : World) (c : Cells) (g1 k1 g2 k2 g3 k3 : Nat) : Prop where
  v : OwnC w' g1 (cellsI c.V)
  n : OwnC w' g2 (cellsP c.N)
  m : OwnC w' g3 (cellsI c.M)
  lv : c.V.length ≤ k1
  ln : c.N.length ≤ k2
  lm : c.M.length ≤ k3
  o1 : w.heap.size ≤ g1
  o2 : w.heap.size ≤ g2
  o3 : w.heap.size ≤ g3
  d12 : g1 ≠ g2
  d13 : g1 ≠ g3
  d23 : g2 ≠ g3
  q : Q w w'
theorem Out.rd {w w' : World} {c : Cells} {g1 k1 g2 k2 g3 k3 : Nat} (h : Out w w' c g1 k1 g2 k2 g3 k3) : Rd w' c (some ⟨g1, 0, none⟩) k1 (some ⟨g2, 0, none⟩) k2 (some ⟨g3, 0, none⟩) k3 := ⟨h.v.rds, h.n.rds, h.m.rds, h.lv, h.ln, h.lm⟩
theorem Out.from {w0 w w' : World} {c : Cells} {g1 k1 g2 k2 g3 k3 : Nat} (h : Out w w' c g1 k1 g2 k2 g3 k3) (q : Q w0 w) : Out w0 w' c g1 k1 g2 k2 g3 k3 :=
  ⟨h.v, h.n, h.m, h.lv, h.ln, h.lm, Nat.le_trans q.size h.o1, Nat.le_trans q.size h.o2, Nat.le_trans q.size h.o3, h.d12, h.d13, h.d23, q.trans h.q⟩
theorem Out.more {w w' w'' : World} {c : Cells} {g1 k1 g2 k2 g3 k3 : Nat} (h : Out w w' c g1 k1 g2 k2 g3 k3) (q : Q w' w'') : Out w w'' c g1 k1 g2 k2 g3 k3 :=
  ⟨h.v.q q, h.n.q q, h.m.q q, h.lv, h.ln, h.lm, h.o1, h.o2, h.o3, h.d12, h.d13, h.d23, h.q.trans q⟩
/-- stores into a box that is none of the three -/
theorem Out.far {w w' w'' : World} {c : Cells} {g1 k1 g2 k2 g3 k3 B : Nat} (h : Out w w' c g1 k1 g2 k2 g3 k3) (hg : w'.grownBy w'' (some B)) (hB : w.heap.size ≤ B) (h1 : B ≠ g1) (h2 : B ≠ g2) (h3 : B ≠ g3) : Out w w'' c g1 k1 g2 k2 g3 k3 :=
  ⟨h.v.grown hg (by simpa using h1), h.n.grown hg (by simpa using h2), h.m.grown hg (by simpa using h3), h.lv, h.ln, h.lm, h.o1, h.o2, h.o3, h.d12, h.d13, h.d23, grown_q hg h.q hB⟩

/-- what copyOf answers -/
structure Cop (w w' : World) (c : Cells) (g1 g2 g3 : Nat) : Prop where
  v : w'.ownsRow w.heap.size 3 1 (.slice (some ⟨g1, 0, none⟩) c.V.length (c.V.length + 1)) c.V.length (cellsI c.V)
  n : w'.ownsRow w.heap.size 195 2 (.slice (some ⟨g2, 0, none⟩) c.N.length (c.N.length + 1)) c.N.length (cellsP c.N)
  m : w'.ownsRow w.heap.size 3 1 (.slice (some ⟨g3, 0, none⟩) c.M.length (c.M.length + 1)) c.M.length (cellsI c.M)
  d12 : g1 < g2
  d23 : g2 < g3
  lo : w.heap.size + 2 ≤ g1
  q : Q w w'
theorem Cop.out {w w' : World} {c : Cells} {g1 g2 g3 : Nat} (h : Cop w w' c g1 g2 g3) : Out w w' c g1 (c.V.length + 1) g2 (c.N.length + 1) g3 (c.M.length + 1) := by
  have := h.d12
  have := h.d23
  have := h.lo
  exact ⟨.of_row h.v, .of_row h.n, .of_row h.m, Nat.le_succ _, Nat.le_succ _, Nat.le_succ _, by omega, by omega, by omega, by omega, by omega, by omega, h.q⟩
def CopyOf (c : Cells) (w : World) (e : Ending) (w' : World) : Prop :=
  ∃ g1 g2 g3, e = .returned (.agg #[.slice (some ⟨g1, 0, none⟩) c.V.length (c.V.length + 1), .slice (some ⟨g2, 0, none⟩) c.N.length (c.N.length + 1), .slice (some ⟨g3, 0, none⟩) c.M.length (c.M.length + 1)]) ∧ Cop w w' c g1 g2 g3
theorem row_kept {w w' : World} {base base' : Nat} {e : TypeId} {size : Nat} {v : Value} {n : Nat} {xs : List Value} (h : w.ownsRow base e size v n xs) (q : Q w w') (hb : base' ≤ base) : w'.ownsRow base' e size v n xs := by
  have h2 := h.kept (row := none) (grows_q q none) (by cases v.ownBlock <;> simp)
  obtain ⟨a, b⟩ := h2
  refine ⟨a, ?_⟩
  rcases b with b | ⟨g, cap, cur, r1, r2, r⟩
  · exact .inl b
  · exact .inr ⟨g, cap, cur, r1, Nat.le_trans hb r2, r⟩
theorem row_far {w w' : World} {base : Nat} {e : TypeId} {size g n cap B : Nat} {xs : List Value} (h : w.ownsRow base e size (.slice (some ⟨g, 0, none⟩) n cap) n xs) (hg : w.grownBy w' (some B)) (hne : B ≠ g) : w'.ownsRow base e size (.slice (some ⟨g, 0, none⟩) n cap) n xs :=
  h.kept hg (.inr (by simp [Value.ownBlock]; exact fun e => hne e.symm))

set_option maxRecDepth 100000 in
set_option maxHeartbeats 2000000 in
theorem copyOf_any (c : Cells) (A D E : Option Addr) (n1 k1 n2 k2 n3 k3 : Nat) (w : World) (h1 : n1 = c.V.length) (h2 : n2 = c.N.length) (h3 : n3 = c.M.length) (h : Rd w c A k1 D k2 E k3) (hf : Few c 1000000) :
    Calls Tryz.prog 264 #[.agg #[.slice A n1 k1, .slice D n2 k2, .slice E n3 k3]] w (CopyOf c w) := by
  subst h1 h2 h3
  obtain ⟨f1, f2, f3⟩ := hf
  have q0 := ((Q.refl w).alloc (Obj.cells #[Value.slice A c.V.length k1, Value.slice D c.N.length k2, Value.slice E c.M.length k3] 29)).alloc (Obj.cells #[Value.slice none 0 0, Value.slice none 0 0, Value.slice none 0 0] 29)
  have HB := Lib.hid ((Box3.new w (Value.slice A c.V.length k1) (Value.slice D c.N.length k2) (Value.slice E c.M.length k3) 29).q ((Q.refl _).alloc (Obj.cells #[Value.slice none 0 0, Value.slice none 0 0, Value.slice none 0 0] 29)))
  have X := Box3.new (w.alloc (Obj.cells #[Value.slice A c.V.length k1, Value.slice D c.N.length k2, Value.slice E c.M.length k3] 29)) (Value.slice none 0 0) (Value.slice none 0 0) (Value.slice none 0 0) 29
  rw [World.size_alloc] at X
  have HX := Lib.hid X
  have HR := Lib.hid (h.q q0)
  clear h X
  go_enter Tryz.func264, Tryz.ntmps264
  go_upto_region 1 with fail
  have hz0 : ((w.alloc (Obj.cells #[Value.slice A c.V.length k1, Value.slice D c.N.length k2, Value.slice E c.M.length k3] 29)).alloc (Obj.cells #[Value.slice none 0 0, Value.slice none 0 0, Value.slice none 0 0] 29)).heap.size = w.heap.size + 2 := by simp
  generalize (w.alloc (Obj.cells #[Value.slice A c.V.length k1, Value.slice D c.N.length k2, Value.slice E c.M.length k3] 29)).alloc (Obj.cells #[Value.slice none 0 0, Value.slice none 0 0, Value.slice none 0 0] 29) = W0 at *
  have HZ := Lib.hid hz0
  clear hz0
  have HV : Hid (∀ W, Q W0 W → Calls Tryz.prog 308 #[.slice A c.V.length k1] W (CopyRow 3 1 c.V.length (cellsI c.V) W)) := fun W q => copyI_any A _ k1 c.V W rfl (HR.out.v.q q) f1
  have HN : Hid (∀ W, Q W0 W → Calls Tryz.prog 309 #[.slice D c.N.length k2] W (CopyRow 195 2 c.N.length (cellsP c.N) W)) := fun W q => copyP_any D _ k2 c.N W rfl (HR.out.n.q q) f2
  have HM : Hid (∀ W, Q W0 W → Calls Tryz.prog 308 #[.slice E c.M.length k3] W (CopyRow 3 1 c.M.length (cellsI c.M) W)) := fun W q => copyI_any E _ k3 c.M W rfl (HR.out.m.q q) f3
  have c0 := HB.out.c0
  have c1 := HB.out.c1
  have c2 := HB.out.c2
  have hlt0 := HB.out.lt
  go_region_held3 (fun w' => w'.cell? ⟨w.heap.size, 0, none⟩ = some (.slice A c.V.length k1) ∧ w'.cell? ⟨w.heap.size, 1, none⟩ = some (.slice D c.N.length k2) ∧ w'.cell? ⟨w.heap.size, 2, none⟩ = some (.slice E c.M.length k3))
    (first
      | go_keep
      | exact ⟨(p3.cell (p := ⟨w.heap.size, 0, none⟩) hlt0).trans c0, (p3.cell (p := ⟨w.heap.size, 1, none⟩) hlt0).trans c1, (p3.cell (p := ⟨w.heap.size, 2, none⟩) hlt0).trans c2⟩
      | exact ⟨(p2.cell (p := ⟨w.heap.size, 0, none⟩) hlt0).trans c0, (p2.cell (p := ⟨w.heap.size, 1, none⟩) hlt0).trans c1, (p2.cell (p := ⟨w.heap.size, 2, none⟩) hlt0).trans c2⟩
      | exact ⟨(p1.cell (p := ⟨w.heap.size, 0, none⟩) hlt0).trans c0, (p1.cell (p := ⟨w.heap.size, 1, none⟩) hlt0).trans c1, (p1.cell (p := ⟨w.heap.size, 2, none⟩) hlt0).trans c2⟩
      | exact (((HB.out.q p3).far (g := w.heap.size + 1) (by omega) _).far (g := w.heap.size + 1) (by omega) _).far (g := w.heap.size + 1) (by omega) _ |>.three)
    (first
      | (go_at_call 308; (with_reducible refine (HV.out _ (Q.refl W0).drew).mono ?_); rintro e w1 ⟨g1, rfl, own1, q1⟩; have Own1 := Lib.hid own1; clear own1; have p1 : Q W0 w1 := (Q.refl W0).drew.trans q1)
      | (go_at_call 309; (with_reducible refine (HN.out _ p1).mono ?_); rintro e w2 ⟨g2, rfl, own2, q2⟩; have Own2 := Lib.hid own2; clear own2; have p2 : Q W0 w2 := p1.trans q2)
      | (go_at_call 308; (with_reducible refine (HM.out _ p2).mono ?_); rintro e w3 ⟨g3, rfl, own3, q3⟩; have Own3 := Lib.hid own3; clear own3; have p3 : Q W0 w3 := p2.trans q3; have bx := HX.out.q p3; have y0 := bx.c0; have y1 := bx.c1; have y2 := bx.c2; have z0 := bx.f0; have z1 := bx.f1; have z2 := bx.f2))
  clear y0 y1 y2 z0 z1 z2 c0 c1 c2
  have bz := bx.all (.slice (some ⟨g1, 0, none⟩) c.V.length (c.V.length + 1)) (.slice (some ⟨g2, 0, none⟩) c.N.length (c.N.length + 1)) (.slice (some ⟨g3, 0, none⟩) c.M.length (c.M.length + 1))
  have y0 := bz.c0
  have y1 := bz.c1
  have y2 := bz.c2
  have hgr := Lib.hid (set3_grown w3 (w.heap.size + 1) (.slice (some ⟨g1, 0, none⟩) c.V.length (c.V.length + 1)) (.slice (some ⟨g2, 0, none⟩) c.N.length (c.N.length + 1)) (.slice (some ⟨g3, 0, none⟩) c.M.length (c.M.length + 1)))
  have e1 := (Own1.out.lt g1 rfl).1
  have e1' := (Own1.out.lt g1 rfl).2
  have e2 := (Own2.out.lt g2 rfl).1
  have e2' := (Own2.out.lt g2 rfl).2
  have e3 := (Own3.out.lt g3 rfl).1
  have hz := HZ.out
  have e0 : W0.heap.size ≤ g1 := e1
  go_wp2_with fail
  refine bodyPost_ret (v := .agg #[.slice (some ⟨g1, 0, none⟩) c.V.length (c.V.length + 1), .slice (some ⟨g2, 0, none⟩) c.N.length (c.N.length + 1), .slice (some ⟨g3, 0, none⟩) c.M.length (c.M.length + 1)]) (by simp [results, Tryz.f264, go_sem, y0, y1, y2]) rfl ⟨g1, g2, g3, rfl, ?_⟩
  exact ⟨row_far (row_kept (row_kept Own1.out q2 (by show w.heap.size ≤ W0.heap.size; omega)) q3 (Nat.le_refl _)) hgr.out (by omega), row_far (row_kept Own2.out q3 (by have := q1.size; have : W0.heap.size ≤ w1.heap.size := this; omega)) hgr.out (by have := q1.size; have : W0.heap.size ≤ w1.heap.size := this; omega),
    row_far (row_kept Own3.out (Q.refl _) (by have := p2.size; omega)) hgr.out (by have := p2.size; omega), by omega, by omega, by omega, grown_q hgr.out (q0.trans p3) (by omega)⟩
end Go.Proofs.YtnifmfdlocgefaaGreat.Tr

namespace Go.Proofs.YtnifmfdlocgefaaGreat.Uf
open Kit Tr

def rk (R : List Int) (n : Int) : Int := if 0 ≤ n ∧ n < R.length then R.getD n.toNat 0 else 0
def lessB (R : List Int) (a b : Int) : Bool := if rk R a = rk R b then decide (a < b) else decide (rk R a < rk R b)
theorem less_iff (R : List Int) (a b : Int) : lessB R a b = true ↔ rk R a < rk R b ∨ rk R a = rk R b ∧ a < b := by
  unfold lessB
  by_cases h : rk R a = rk R b
  · rw [if_pos h]; simp [h]
  · rw [if_neg h]; simp [h]
theorem less_self (R : List Int) (a : Int) : lessB R a a = false := by
  cases e : lessB R a a with
  | false => rfl
  | true => have := (less_iff R a a).1 e; omega
theorem less_trans {R : List Int} {a b c : Int} (h : lessB R a b = true) (k : lessB R b c = true) : lessB R a c = true := by
  rw [less_iff] at h k ⊢
  omega
theorem less_flip {R : List Int} {a b : Int} (h : a ≠ b) (k : lessB R a b = false) : lessB R b a = true := by
  have k' : ¬ lessB R a b = true := by rw [k]; simp
  rw [less_iff] at k' ⊢
  omega
theorem less_not {R : List Int} {a b : Int} (h : lessB R a b = true) : lessB R b a = false := by
  cases e : lessB R b a with
  | false => rfl
  | true => have := less_trans h e; rw [less_self] at this; cases this
/-- how many of the first L are ahead of n -/
def dep (R : List Int) (n : Nat) : Nat → Nat
  | 0 => 0
  | m + 1 => (if lessB R m n = true then 1 else 0) + dep R n m
theorem dep_le {R : List Int} {a b : Nat} (h : lessB R a b = true) : ∀ L, dep R a L ≤ dep R b L
  | 0 => Nat.le_refl _
  | m + 1 => by
    have := dep_le h m
    unfold dep
    by_cases e : lessB R m a = true
    · rw [if_pos e, if_pos (less_trans e h)]; omega
    · rw [if_neg e]; omega
theorem dep_lt {R : List Int} {a b : Nat} (h : lessB R a b = true) : ∀ {L}, a < L → dep R a L < dep R b L
  | 0, hL => absurd hL (by omega)
  | m + 1, hL => by
    unfold dep
    by_cases e : a = m
    · subst e
      rw [if_neg (by rw [less_self]; simp), if_pos h]
      have := dep_le h a
      omega
    · have := dep_lt h (L := m) (by omega)
      by_cases e : lessB R m a = true
      · rw [if_pos e, if_pos (less_trans e h)]; omega
      · rw [if_neg e]; omega
theorem dep_len (R : List Int) (n : Nat) : ∀ L, dep R n L ≤ L
  | 0 => Nat.le_refl _
  | m + 1 => by
    have := dep_len R n m
    unfold dep
    split <;> omega
theorem dep_in (R : List Int) {n : Nat} : ∀ {L}, n < L → dep R n L < L
  | 0, hL => absurd hL (by omega)
  | m + 1, hL => by
    unfold dep
    by_cases e : n = m
    · subst e
      rw [if_neg (by rw [less_self]; simp)]
      have := dep_len R n n
      omega
    · have := dep_in R (n := n) (L := m) (by omega)
      split <;> omega

def par (V : List Int) (n : Nat) : Nat := (V.getD n 0).toNat
/-- cells are classes -/
def Cl (R V : List Int) : Prop := ∀ n, n < V.length → ∃ p : Nat, p < V.length ∧ V[n]? = some (p : Int) ∧ (p = n ∨ lessB R p n = true)
theorem par_of {V : List Int} {n p : Nat} (h : V[n]? = some (p : Int)) : par V n = p := by
  unfold par
  rw [List.getD_eq_getElem?_getD, h]; rfl
theorem Cl.parent {R V : List Int} (h : Cl R V) {n : Nat} (hn : n < V.length) : par V n < V.length ∧ V[n]? = some (par V n : Int) ∧ (par V n = n ∨ lessB R (par V n) n = true) := by
  obtain ⟨p, h1, h2, h3⟩ := h n hn
  rw [par_of h2]
  exact ⟨h1, h2, h3⟩
theorem Cl.at {R V : List Int} (h : Cl R V) {n : Nat} (hn : n < V.length) : V[n] = (par V n : Int) := by
  have := (h.parent hn).2.1
  rw [List.getElem?_eq_getElem hn] at this
  injection this
/-- so many steps up -/
def root (V : List Int) : Nat → Nat → Nat
  | 0, n => n
  | k + 1, n => if par V n = n then n else root V k (par V n)
/-- the first one of n -/
def fst (V : List Int) (n : Nat) : Nat := root V V.length n
theorem Cl.ind {R V : List Int} (h : Cl R V) {P : Nat → Prop} (step : ∀ n, n < V.length → (par V n ≠ n → P (par V n)) → P n) : ∀ n, n < V.length → P n := by
  have : ∀ d n, n < V.length → dep R n V.length ≤ d → P n := fun d => by
    induction d with
    | zero =>
      intro n hn hd
      refine step n hn fun hne => ?_
      obtain ⟨h1, _, h3⟩ := h.parent hn
      have := dep_lt (h3.resolve_left hne) h1
      omega
    | succ d ih =>
      intro n hn hd
      refine step n hn fun hne => ?_
      obtain ⟨h1, _, h3⟩ := h.parent hn
      have := dep_lt (h3.resolve_left hne) h1
      exact ih _ h1 (by omega)
  exact fun n hn => this _ n hn (Nat.le_refl _)
theorem root_stay {V : List Int} {n : Nat} (h : par V n = n) : ∀ k, root V k n = n
  | 0 => rfl
  | k + 1 => by unfold root; rw [if_pos h]
theorem Cl.fuel {R V : List Int} (h : Cl R V) : ∀ {k k' n : Nat}, n < V.length → dep R n V.length ≤ k → dep R n V.length ≤ k' → root V k n = root V k' n
  | 0, k', n, hn, h1, _ => by
    have : par V n = n := by
      obtain ⟨p1, _, p3⟩ := h.parent hn
      rcases p3 with e | e
      · exact e
      · have := dep_lt e p1; omega
    rw [root_stay this, root_stay this]
  | k + 1, 0, n, hn, _, h2 => by
    have : par V n = n := by
      obtain ⟨p1, _, p3⟩ := h.parent hn
      rcases p3 with e | e
      · exact e
      · have := dep_lt e p1; omega
    rw [root_stay this, root_stay this]
  | k + 1, k' + 1, n, hn, h1, h2 => by
    unfold root
    by_cases e : par V n = n
    · rw [if_pos e, if_pos e]
    · rw [if_neg e, if_neg e]
      obtain ⟨p1, _, p3⟩ := h.parent hn
      have := dep_lt (p3.resolve_left e) p1
      exact h.fuel p1 (by omega) (by omega)
theorem Cl.fst_eq {R V : List Int} (h : Cl R V) {n : Nat} (hn : n < V.length) : fst V n = if par V n = n then n else fst V (par V n) := by
  unfold fst
  have hd := dep_in R hn
  obtain ⟨k, hk⟩ : ∃ k, V.length = k + 1 := ⟨V.length - 1, by omega⟩
  by_cases e : par V n = n
  · rw [if_pos e, root_stay e]
  · rw [if_neg e]
    obtain ⟨p1, _, p3⟩ := h.parent hn
    have hp := dep_lt (p3.resolve_left e) p1
    have e2 : root V V.length n = root V k (par V n) := by rw [hk]; show (if par V n = n then n else root V k (par V n)) = _; rw [if_neg e]
    rw [e2]
    exact h.fuel p1 (by omega) (by omega)
theorem Cl.fst_self {R V : List Int} (h : Cl R V) {n : Nat} (hn : n < V.length) (e : par V n = n) : fst V n = n := by rw [h.fst_eq hn, if_pos e]
theorem Cl.fst_up {R V : List Int} (h : Cl R V) {n : Nat} (hn : n < V.length) : fst V (par V n) = fst V n := by
  by_cases e : par V n = n
  · rw [e]
  · rw [h.fst_eq hn, if_neg e]
/-- a first one is there, is its own, and is ahead -/
theorem Cl.fst_in {R V : List Int} (h : Cl R V) : ∀ n, n < V.length → fst V n < V.length ∧ par V (fst V n) = fst V n ∧ (fst V n = n ∨ lessB R (fst V n) n = true) := by
  refine h.ind fun n hn ih => ?_
  by_cases e : par V n = n
  · rw [h.fst_self hn e]; exact ⟨hn, e, .inl rfl⟩
  · rw [← h.fst_up hn]
    obtain ⟨a, b, c⟩ := ih e
    have p3 := (h.parent hn).2.2.resolve_left e
    refine ⟨a, b, .inr ?_⟩
    rcases c with c | c
    · rw [c]; exact p3
    · exact less_trans c p3
theorem par_set {V : List Int} {i p n : Nat} (hi : i < V.length) : par (V.set i (p : Int)) n = if n = i then p else par V n := by
  unfold par
  by_cases e : n = i
  · subst e
    rw [if_pos rfl, List.getD_eq_getElem?_getD, List.getElem?_set_self hi]; rfl
  · rw [if_neg e, List.getD_eq_getElem?_getD, List.getD_eq_getElem?_getD, List.getElem?_set_ne (fun h => e h.symm)]
theorem Cl.set {R V : List Int} (h : Cl R V) {i p : Nat} (_hi : i < V.length) (hp : p < V.length) (hl : p = i ∨ lessB R p i = true) : Cl R (V.set i (p : Int)) := by
  intro n hn
  rw [List.length_set] at hn ⊢
  by_cases e : i = n
  · subst e
    exact ⟨p, hp, List.getElem?_set_self hn, hl⟩
  · rw [List.getElem?_set_ne e]
    exact h n hn
/-- two classes are joined: y's first one is x from now on -/
theorem Cl.join {R V : List Int} (h : Cl R V) {x y : Nat} (hx : x < V.length) (hy : y < V.length) (px : par V x = x) (py : par V y = y) (hl : lessB R x y = true) : Cl R (V.set y (x : Int)) ∧ ∀ n, n < V.length → fst (V.set y (x : Int)) n = if fst V n = y then x else fst V n := by
  have h' : Cl R (V.set y (x : Int)) := h.set hy hx (.inr hl)
  have hne : x ≠ y := fun e => by rw [e, less_self] at hl; cases hl
  refine ⟨h', ?_⟩
  have := h'.ind (P := fun n => fst (V.set y (x : Int)) n = if fst V n = y then x else fst V n) fun n hn ih => ?_
  · exact fun n hn => this n (by rw [List.length_set]; exact hn)
  · rw [h'.fst_eq hn]
    rw [List.length_set] at hn
    rw [par_set hy] at ih ⊢
    by_cases e : n = y
    · subst e
      rw [if_pos rfl] at ih ⊢
      rw [if_neg hne, ih hne, h.fst_self hx px, if_neg hne, h.fst_self hn py, if_pos rfl]
    · rw [if_neg e] at ih ⊢
      by_cases e2 : par V n = n
      · rw [if_pos e2, h.fst_self hn e2, if_neg e]
      · rw [if_neg e2, ih e2, h.fst_up hn]
theorem Cl.add {R V : List Int} (h : Cl R V) : Cl R (V ++ [(V.length : Int)]) := by
  intro n hn
  rw [List.length_append, List.length_singleton] at hn ⊢
  by_cases e : n < V.length
  · obtain ⟨p, h1, h2, h3⟩ := h n e
    exact ⟨p, by omega, by rw [List.getElem?_append_left e]; exact h2, h3⟩
  · obtain rfl : n = V.length := by omega
    exact ⟨V.length, by omega, by rw [List.getElem?_append_right (Nat.le_refl _)]; simp, .inl rfl⟩
def okB (R V : List Int) (n : Nat) : Bool := (V.getD n 0 == (n : Int)) || (decide (0 ≤ V.getD n 0) && decide (V.getD n 0 < V.length) && lessB R (V.getD n 0) n)
def clB (R V : List Int) : Bool := decide (∀ n, n < V.length → okB R V n = true)
theorem cl_of {R V : List Int} (h : clB R V = true) : Cl R V := by
  have h' := of_decide_eq_true h
  intro n hn
  have := h' n hn
  unfold okB at this
  have hv : V[n]? = some (V.getD n 0) := by rw [List.getD_eq_getElem?_getD, List.getElem?_eq_getElem hn]; rfl
  rcases (Bool.or_eq_true _ _).mp this with e | e
  · have e' := eq_of_beq e
    exact ⟨n, hn, by rw [hv, e'], .inl rfl⟩
  · rw [Bool.and_eq_true, Bool.and_eq_true] at e
    obtain ⟨⟨e1, e2⟩, e3⟩ := e
    have e1 := of_decide_eq_true e1
    have e2 := of_decide_eq_true e2
    obtain ⟨p, hp⟩ := Int.eq_ofNat_of_zero_le e1
    rw [hp] at hv e2 e3
    exact ⟨p, by omega, hv, .inr e3⟩
theorem cl_to {R V : List Int} (h : Cl R V) : clB R V = true := by
  refine decide_eq_true fun n hn => ?_
  obtain ⟨p, h1, h2, h3⟩ := h n hn
  have e : V.getD n 0 = (p : Int) := by rw [List.getD_eq_getElem?_getD, h2]; rfl
  unfold okB
  rw [e]
  rcases h3 with rfl | h3
  · simp
  · rw [h3, decide_eq_true (show (0 : Int) ≤ (p : Int) by omega), decide_eq_true (show (p : Int) < (V.length : Int) by omega)]
    simp

def those (L : Nat) (p : Nat → Bool) : List Int := ((List.range L).filter p).map Int.ofNat
theorem those_yes {L : Nat} {p : Nat → Bool} (h : p L = true) : those (L + 1) p = those L p ++ [(L : Int)] := by
  unfold those
  rw [List.range_succ, List.filter_append, List.map_append, List.filter_cons_of_pos h]
  rfl
theorem those_no {L : Nat} {p : Nat → Bool} (h : p L = false) : those (L + 1) p = those L p := by
  unfold those
  rw [List.range_succ, List.filter_append, List.map_append, List.filter_cons_of_neg (by rw [h]; simp)]
  simp
theorem those_len (L : Nat) (p : Nat → Bool) : (those L p).length ≤ L := by
  unfold those
  rw [List.length_map]
  exact Nat.le_trans (List.length_filter_le _ _) (by simp)
def firstsL (V : List Int) : List Int := those V.length fun m => par V m == m
end Go.Proofs.YtnifmfdlocgefaaGreat.Uf

namespace Go.Proofs.YtnifmfdlocgefaaGreat.Tr
open Go.RowKit Kit

set_option maxHeartbeats 400000 in
theorem ints_same (A B : Option Addr) (n c n' c' : Nat) (l : List Int) (w : World) (hn : n = l.length) (hn' : n' = l.length) (hr : Rds w w.heap.size A (cellsI l)) (hr' : Rds w w.heap.size B (cellsI l)) (hl : l.length ≤ 1000000) :
    Calls Tryz.prog 19 #[.slice A n c, .slice B n' c'] w fun e w' => e = .returned (.bool true) ∧ ∃ d, w' = w.drewN d := by
  subst hn
  subst hn'
  have hne : ((l.length : Int) != (l.length : Int)) = false := by simp
  have HR := Lib.hid hr
  have HR' := Lib.hid hr'
  clear hr hr'
  go_enter Tryz.func19, Tryz.ntmps19
  go_wp2_with fail
  go_loopw [5] (fun i wr => ∃ k : Nat, k ≤ l.length ∧ i = .int .i64 k ∧ ∃ d, wr = w.drewN d) (fun i _ => l.length - (intOf i).toNat)
  case atStart => exact ⟨0, Nat.zero_le _, rfl, 0, rfl⟩
  case round =>
    obtain ⟨k, hk, rfl, d, rfl⟩ := hrel
    by_cases hlt : k < l.length
    · obtain ⟨ad, e, hb, c0⟩ := HR.out.int_at hlt
      obtain ⟨ad', e', hb', c0'⟩ := HR'.out.int_at hlt
      have HE := Lib.hid e
      have HE' := Lib.hid e'
      clear e e'
      rw [HE.out, HE'.out]
      have he' : (l[k] != l[k]) = false := by simp
      go_wp2_with fail
      go_region
      all_goals go_wp2_with fail
      all_goals go_roundw
      case rel => exact ⟨k + 1, by omega, by go_num, d + 1, rfl⟩
      case measure => simp [intOf]; omega
    · go_wp2_with fail
      go_ret
      exact ⟨rfl, d, rfl⟩
theorem drewN_add (w : World) (a b : Nat) : (w.drewN a).drewN b = w.drewN (a + b) := by simp [World.drewN, Nat.add_assoc]
theorem q_drewN (w : World) {w' : World} (h : ∃ d, w' = w.drewN d) : Q w w' := by
  obtain ⟨d, rfl⟩ := h
  exact (Q.refl w).drewN d

def fewB (c : Cells) : Bool := decide ((c.V.length : Int) + c.N.length + c.M.length ≤ 500)
/-- a row that is written: nil, or in a block of its own, from block B on -/
def OwnO (w : World) (B : Nat) (A : Option Addr) (cs : List Value) : Prop := 0 < cs.length → ∃ g, A = some ⟨g, 0, none⟩ ∧ B ≤ g ∧ OwnC w g cs
theorem OwnO.q {w w' : World} {B : Nat} {A : Option Addr} {cs : List Value} (h : OwnO w B A cs) (q : Q w w') : OwnO w' B A cs := fun h0 => by
  obtain ⟨g, e, hb, hc⟩ := h h0
  exact ⟨g, e, hb, hc.q q⟩
theorem OwnO.take {w : World} {B : Nat} {A : Option Addr} {cs : List Value} (h : OwnO w B A cs) (n : Nat) : OwnO w B A (cs.take n) := fun h0 => by
  obtain ⟨g, e, hb, hc⟩ := h (by rw [List.length_take] at h0; omega)
  exact ⟨g, e, hb, hc.take n⟩

def RefCells (c : Cells) (w : World) (e : Ending) (w' : World) : Prop := ∃ v, e = .returned (.tuple #[v, .bool (backs c.N c.V).isSome]) ∧ Q w w'

theorem back1_nil (was : Int) (v : List Int) (h : v.length = 0) : back1 (-1, was) v = none := by unfold back1; rw [if_pos rfl, if_pos h]
theorem back1_cut (was : Int) (v : List Int) (h : 0 < v.length) : back1 (-1, was) v = some (v.take (v.length - 1)) := by unfold back1; rw [if_pos rfl, if_neg (by omega)]
theorem back1_put (a : Nat) (was : Int) (v : List Int) (h : a < v.length) : back1 ((a : Int), was) v = some (v.set a was) := by
  unfold back1
  rw [if_neg (by show ¬ (a : Int) = -1; omega), if_pos ⟨by show (0 : Int) ≤ a; omega, by show (a : Int) < _; omega⟩]; rfl
theorem back1_no (n : Note) (v : List Int) (h1 : n.1 ≠ -1) (h : ¬ (0 ≤ n.1 ∧ n.1 < v.length)) : back1 n v = none := by unfold back1; rw [if_neg h1, if_neg h]
theorem slice_toJ (A : Option Addr) (n c l : Nat) (i : Int) (hi : i = l) (h : l ≤ c) (u : World) : (Instr.slice 24 (.slice A n c) none (some (.int .i64 i)) none).run Tryz.prog u = .ok (.slice A l c) u := by
  subst hi
  obtain ⟨i0, hi, hz0, hz1, hz2⟩ := info_parts intInfo
  simp [Instr.slice, run_underlying Tryz.underlying24, Instr.sliceBounds, Instr.sliceBound, asIntOf, sizeOf, typeInfo, hi, h, Addr.add]

set_option maxRecDepth 100000 in
set_option maxHeartbeats 4000000 in
theorem refCells_any (c : Cells) (A D E : Option Addr) (n1 k1 n2 k2 n3 k3 : Nat) (w : World) (h1 : n1 = c.V.length) (h2 : n2 = c.N.length) (h3 : n3 = c.M.length) (h : Rd w c A k1 D k2 E k3) (hf : Few c 1000000) :
    Calls Tryz.prog 207 #[.agg #[.slice A n1 k1, .slice D n2 k2, .slice E n3 k3], .int .i64 0] w (RefCells c w) := by
  subst h1 h2 h3
  obtain ⟨fv, fn, fm⟩ := hf
  obtain ⟨i0, hi, hz0, hz1, hz2⟩ := info_parts intInfo
  have Hi := Lib.hid hi
  have Hz0 := Lib.hid hz0
  have Hz1 := Lib.hid hz1
  have Hz2 := Lib.hid hz2
  clear hi hz0 hz1 hz2
  have q0 := (Q.refl w).alloc (Obj.cells #[Value.slice A c.V.length k1, Value.slice D c.N.length k2, Value.slice E c.M.length k3] 29)
  have HB := Lib.hid (Box3.new w (Value.slice A c.V.length k1) (Value.slice D c.N.length k2) (Value.slice E c.M.length k3) 29)
  have HR := Lib.hid (h.q q0)
  have HN := Lib.hid h.n
  clear h
  go_enter Tryz.func207, Tryz.ntmps207
  go_upto_region 1 with fail
  generalize w.alloc (Obj.cells #[Value.slice A c.V.length k1, Value.slice D c.N.length k2, Value.slice E c.M.length k3] 29) = W0 at *
  have b0 := HB.out.c0
  have b1 := HB.out.c1
  have hlt0 := HB.out.lt
  have qa := (Q.refl W0).alloc (Obj.cells #[] 3)
  have HsV := Lib.hid (HR.out.v.q qa)
  have Ho := Lib.hid (own_empty (base := w.heap.size + 1) (e := 3) (size := 1) (by omega) (heap_alloc_new W0 (Obj.cells #[] 3)))
  go_upto_region 2 with (at_builtin; refine wpList_append_src _ rfl (.tmp 9) (.tmp 11) _ rfl (w.heap.size + 1) 3 i0 _ 1 8 Tryz.underlying24 Hi.out Hz0.out Hz1.out Hz2.out rfl (by omega) (.slice (some ⟨W0.heap.size, 0, none⟩) 0 0) 0 [] rfl Ho.out A c.V.length k1 (cellsI c.V) rfl (by rw [cellsI_len]; omega) HsV.out.src (cellsI_one c.V) (by unfold maxLen; omega) (by omega) (by simp; omega) ?_; intro v' w' own' gr' _; have Own := Lib.hid own'; have q2 : Q W0 w' := qa.grown gr' (by simp) (by simp [Value.ownBlock]); clear own' gr')
  have own2 := Own.out
  rw [Nat.zero_add, List.nil_append] at own2
  obtain ⟨A2, K, hv', hK, hO⟩ : ∃ A c', v' = .slice A c.V.length c' ∧ c.V.length ≤ c' ∧ OwnO w' (w.heap.size + 1) A (cellsI c.V) := by
    have h2 := own2
    obtain ⟨hl, ⟨rfl, h0⟩ | ⟨g, cap, cur, rfl, hg, hh, hc, _⟩⟩ := own2
    · exact ⟨none, 0, by rw [h0], by omega, fun h => by rw [cellsI_len] at h; omega⟩
    · exact ⟨_, cap, rfl, hc, fun _ => ⟨g, rfl, hg, OwnC.of_row h2⟩⟩
  have HO := Lib.hid hO
  have HB2 := Lib.hid (HB.out.q q2)
  have HR2 := Lib.hid (HR.out.q q2)
  have q02 := Lib.hid (q0.trans q2)
  have HN2 := Lib.hid (HN.out.keep q02.out)
  have b1' := HB2.out.c1
  have hl2 := HB2.out.lt
  have HV := Lib.hid hv'
  have Hst : Hid ((backs c.N c.V).isSome = (backR (c.N.take c.N.length).reverse c.V).isSome) := by rw [List.take_length]; exact Lib.hid rfl
  clear own2 hv' hO b0 b1 hlt0 qa Own Ho HsV HR HB q0 q2
  rw [HV.out]
  go_wp2_with fail
  go_loopw [6, 7] (fun vv i wr => ∃ (B : Option Addr) (v : List Int) (k : Nat) (j : Int), k ≤ c.N.length ∧ i = .int .i64 j ∧ Hid (j = (k : Int) - 1) ∧ vv = .slice B v.length K ∧ v.length ≤ K ∧ v.length ≤ 1000000 ∧ Hid (OwnO wr (w.heap.size + 1) B (cellsI v)) ∧ Hid (Q w wr) ∧ Hid (Box3 wr w.heap.size (Value.slice A c.V.length k1) (Value.slice D c.N.length k2) (Value.slice E c.M.length k3)) ∧ Hid (Rds wr w.heap.size D (cellsP c.N)) ∧ Hid ((backs c.N c.V).isSome = (backR (c.N.take k).reverse v).isSome)) (fun _ i _ => (intOf i + 1).toNat)
  case atStart => exact ⟨A2, c.V, c.N.length, _, Nat.le_refl _, rfl, Lib.hid rfl, rfl, hK, fv, HO, q02, HB2, HN2, Hst⟩
  case round =>
    clear HO q02 HB2 HR2 HN HN2 Hst b1' hl2
    obtain ⟨B, v, k, j, hk, rfl, HJ, rfl, hvK, hvl, HO, HQ, HB, HR, HH⟩ := hrel
    have b1 := HB.out.c1
    rcases k with _ | k
    · obtain rfl : j = -1 := by have := HJ.out; simpa using this
      have HV0 : Hid ((backs c.N c.V).isSome = true) := HH.out
      go_wp2_with fail
      go_ret2
      exact ⟨_, by rw [HV0.out]; rfl, HQ.out⟩
    · obtain rfl : j = (k : Int) := by have := HJ.out; omega
      have hkl : k < c.N.length := by omega
      have hj0 : (0 : Int) ≤ (k : Int) := Int.natCast_nonneg _
      have HS := HH.out
      rw [backR_at c.N k hkl] at HS
      obtain ⟨ad, e, hb, c0, c1⟩ := HR.out.pair_at hkl
      have HE := Lib.hid e
      clear e
      have hlt := HB.out.lt
      generalize c.N[k] = x at *
      obtain ⟨a, was⟩ := x
      have q1 := (Q.refl wr).alloc (Obj.cells #[.int .i64 a, .int .i64 was] 195)
      by_cases ha : a = -1
      · subst ha
        by_cases hv0 : v.length = 0
        · have HF : Hid ((backs c.N c.V).isSome = false) := by rw [back1_nil was v hv0] at HS; exact Lib.hid HS
          have dl : decide (0 < v.length) = false := decide_eq_false (by omega)
          clear HS hv0
          rw [HE.out] at b1
          go_wp2_with fail
          go_ret2
          exact ⟨_, by rw [HF.out]; rfl, HQ.out.alloc _⟩
        · have hv1 : 0 < v.length := by omega
          have HF : Hid ((backs c.N c.V).isSome = (backR (c.N.take k).reverse (v.take (v.length - 1))).isSome) := by rw [back1_cut was v hv1] at HS; exact Lib.hid HS
          have dl : decide (0 < v.length) = true := decide_eq_true hv1
          have hsl := fun u => slice_toJ B v.length K (v.length - 1) ((v.length : Int) - 1) (by omega) (by omega) u
          have hlen : Hid ((v.take (v.length - 1)).length = v.length - 1) := by unfold Hid; rw [List.length_take]; omega
          have HOt := HO.out.take (v.length - 1)
          have HOt' : Hid (OwnO wr (w.heap.size + 1) B (cellsI (v.take (v.length - 1)))) := by rw [show (cellsI v).take (v.length - 1) = cellsI (v.take (v.length - 1)) by simp [cellsI, List.map_take]] at HOt; exact HOt
          clear HS hv0 HOt
          rw [HE.out] at b1
          go_wp2_with fail
          go_roundw
          case rel => exact ⟨B, v.take (v.length - 1), k, _, by omega, rfl, Lib.hid (by omega), by rw [hlen.out], by rw [hlen.out]; omega, by rw [hlen.out]; omega, Lib.hid (HOt'.out.q q1), Lib.hid (HQ.out.alloc _), Lib.hid (HB.out.q q1), Lib.hid (HR.out.keep (q1.mono (Nat.le_of_lt hlt))), HF⟩
          case measure => simp [intOf]
      · by_cases hp : 0 ≤ a ∧ a < v.length
        · obtain ⟨m, rfl⟩ := Int.eq_ofNat_of_zero_le hp.1
          have hml : m < v.length := by omega
          have HF : Hid ((backs c.N c.V).isSome = (backR (c.N.take k).reverse (v.set m was)).isSome) := by rw [back1_put m was v hml] at HS; exact Lib.hid HS
          have dn : (((m : Nat) : Int) == -1) = false := by simp
          have d1 : decide (0 ≤ ((m : Nat) : Int)) = true := decide_eq_true hp.1
          have d2 : decide (m < v.length) = true := decide_eq_true hml
          obtain ⟨g, e, hg, hc⟩ := HO.out (by rw [cellsI_len]; omega)
          have HE2 := Lib.hid e
          have HC := Lib.hid (hc.q q1)
          have HCw := Lib.hid hc
          have oc := (HC.out.2 m _ (cellsI_at hml)).1
          have of := (HC.out.2 m _ (cellsI_at hml)).2
          have hgs := hc.1
          clear HS hp ha e hc
          rw [HE.out] at b1
          rw [HE2.out]
          go_wp2_with fail
          have hg2 := setCell_grown wr g m (.int .i64 was)
          have q3 := (Q.refl (wr.setCell ⟨g, m, none⟩ (.int .i64 was))).alloc (Obj.cells #[.int .i64 (m : Int), .int .i64 was] 195)
          have hz : (wr.setCell ⟨g, m, none⟩ (.int .i64 was)).heap.size = wr.heap.size := by simp [World.setCell]
          go_roundw
          case rel => exact ⟨some ⟨g, 0, none⟩, v.set m was, k, _, by omega, rfl, Lib.hid (by omega), by rw [List.length_set], by rw [List.length_set]; exact hvK, by rw [List.length_set]; exact hvl, Lib.hid (fun _ => ⟨g, rfl, hg, by rw [cellsI_set]; exact (HCw.out.set (by rw [cellsI_len]; exact hml) _).q q3⟩), Lib.hid ((grown_q hg2 HQ.out (by omega)).alloc _), Lib.hid ((HB.out.grown hg2 (by omega)).q q3), Lib.hid ((HR.out.keep (Below.grown (Below.refl w.heap.size wr) hg2 (Nat.le_of_lt HB.out.lt) (fun i e => by injection e with e; omega))).keep (q3.mono (by rw [hz]; exact Nat.le_of_lt HB.out.lt))), HF⟩
          case measure => simp [intOf]
        · have HF : Hid ((backs c.N c.V).isSome = false) := by rw [back1_no (a, was) v ha hp] at HS; exact Lib.hid HS
          have dn : (a == -1) = false := by simpa using ha
          by_cases h0 : 0 ≤ a
          · have d1 : decide (0 ≤ a) = true := decide_eq_true h0
            have d2 : decide (a < (v.length : Int)) = false := decide_eq_false (fun h => hp ⟨h0, h⟩)
            clear HS hp ha h0
            rw [HE.out] at b1
            go_wp2_with fail
            go_ret2
            exact ⟨_, by rw [HF.out]; rfl, HQ.out.alloc _⟩
          · have d1 : decide (0 ≤ a) = false := decide_eq_false h0
            clear HS hp ha h0
            rw [HE.out] at b1
            go_wp2_with fail
            go_ret2
            exact ⟨_, by rw [HF.out]; rfl, HQ.out.alloc _⟩

theorem note_struct : Tryz.prog.underlying 195 = some (.struct (Tryz.prog.fieldsOf 195)) := by kernel_rfl
theorem note_held : Tryz.prog.stoodInHeld 195 = false := by kernel_rfl
theorem note_fields : (Tryz.prog.fieldsOf 195).toList.map (fun f => (f.name == "_", f.type, f.offset)) = [(false, 3, 0), (false, 3, 1)] := by kernel_rfl
theorem part_int (w : World) (xs : Array Value) (k : Nat) (x : Int) (h : xs[k]? = some (.int .i64 x)) : (part 3 xs k).run Tryz.prog w = .ok (.int .i64 x) w := run_part_plain w (by kernel_rfl) h
theorem run_eq_note (w : World) (a b : Int) : (Op.equalIn 10000 195 (.agg #[.int .i64 a, .int .i64 b]) (.agg #[.int .i64 a, .int .i64 b])).run Tryz.prog w = .ok true w := by
  rw [show (10000 : Nat) = 9999 + 1 from rfl, run_equalIn_struct w 9999 _ _ _ note_struct note_held]
  have hf := note_fields
  match hl : (Tryz.prog.fieldsOf 195).toList with
  | [] => rw [hl] at hf; simp at hf
  | [_] => rw [hl] at hf; simp at hf
  | f :: g :: h :: r => rw [hl] at hf; simp at hf
  | [f, g] =>
    rw [hl] at hf
    simp only [List.map_cons, List.map_nil, List.cons.injEq, Prod.mk.injEq, and_true] at hf
    obtain ⟨⟨n0, t0, o0⟩, n1, t1, o1⟩ := hf
    have n0' : f.name ≠ "_" := by simpa using n0
    have n1' : g.name ≠ "_" := by simpa using n1
    have e : ∀ x y : Int, (Op.equalIn 9999 3 (.int .i64 x) (.int .i64 y)).run Tryz.prog w = .ok (x == y) w := fun x y => run_equalIn_int w 9998 _ .i64 .i64 x y Tryz.underlying3
    have p0 := part_int w #[.int .i64 a, .int .i64 b] 0 a rfl
    have p2 := part_int w #[.int .i64 a, .int .i64 b] 1 b rfl
    simp only [Op.eqFields, if_pos n0', if_pos n1', t0, t1, o0, o1, Sem.run_bind, p0, Result.andThen_ok, e, beq_self_eq_true]
    simp only [Bool.not_true, Bool.false_eq_true, if_false, Sem.run_bind, p2, Result.andThen_ok, e, beq_self_eq_true]
    simp [Sem.run_pure]
theorem run_neq_note (w : World) (a b : Int) : (binOp .neq 195 (.agg #[.int .i64 a, .int .i64 b]) (.agg #[.int .i64 a, .int .i64 b])).run Tryz.prog w = .ok (.bool false) w := by
  rw [run_neq_struct, run_eq_note]; rfl

set_option maxRecDepth 100000 in
set_option maxHeartbeats 2000000 in
theorem same_any (c : Cells) (A D E A' D' E' : Option Addr) (n1 k1 n2 k2 n3 k3 n1' k1' n2' k2' n3' k3' : Nat) (w : World) (h1 : n1 = c.V.length) (h2 : n2 = c.N.length) (h3 : n3 = c.M.length) (h1' : n1' = c.V.length) (h2' : n2' = c.N.length) (h3' : n3' = c.M.length) (h : Rd w c A k1 D k2 E k3) (h' : Rd w c A' k1' D' k2' E' k3') (hf : Few c 1000000) :
    Calls Tryz.prog 75 #[.agg #[.slice A n1 k1, .slice D n2 k2, .slice E n3 k3], .agg #[.slice A' n1' k1', .slice D' n2' k2', .slice E' n3' k3']] w fun e w' => e = .returned (.bool true) ∧ Q w w' := by
  subst h1 h2 h3 h1' h2' h3'
  obtain ⟨fv, fn, fm⟩ := hf
  have qa := (Q.refl w).alloc (Obj.cells #[Value.slice A c.V.length k1, Value.slice D c.N.length k2, Value.slice E c.M.length k3] 29)
  have q0 := qa.alloc (Obj.cells #[Value.slice A' c.V.length k1', Value.slice D' c.N.length k2', Value.slice E' c.M.length k3'] 29)
  have HB := Lib.hid ((Box3.new w (Value.slice A c.V.length k1) (Value.slice D c.N.length k2) (Value.slice E c.M.length k3) 29).q ((Q.refl _).alloc (Obj.cells #[Value.slice A' c.V.length k1', Value.slice D' c.N.length k2', Value.slice E' c.M.length k3'] 29)))
  have X := Box3.new (w.alloc (Obj.cells #[Value.slice A c.V.length k1, Value.slice D c.N.length k2, Value.slice E c.M.length k3] 29)) (Value.slice A' c.V.length k1') (Value.slice D' c.N.length k2') (Value.slice E' c.M.length k3') 29
  rw [World.size_alloc] at X
  have HB' := Lib.hid X
  have HR := Lib.hid (h.q q0)
  have HR' := Lib.hid (h'.q q0)
  have hne : ((c.N.length : Int) != (c.N.length : Int)) = false := by simp
  clear h h' X qa
  go_enter Tryz.func75, Tryz.ntmps75
  go_wp2_with fail
  generalize (w.alloc (Obj.cells #[Value.slice A c.V.length k1, Value.slice D c.N.length k2, Value.slice E c.M.length k3] 29)).alloc (Obj.cells #[Value.slice A' c.V.length k1', Value.slice D' c.N.length k2', Value.slice E' c.M.length k3'] 29) = W0 at *
  go_loopw [5] (fun i wr => ∃ k : Nat, k ≤ c.N.length ∧ i = .int .i64 k ∧ Hid (∃ d, wr = W0.drewN d)) (fun i _ => c.N.length - (intOf i).toNat)
  case atStart => exact ⟨0, Nat.zero_le _, rfl, Lib.hid ⟨0, rfl⟩⟩
  case round =>
    obtain ⟨k, hk, rfl, HD⟩ := hrel
    have qr := Lib.hid (q_drewN W0 HD.out)
    have b0 := (HB.out.q qr.out).c0
    have b1 := (HB.out.q qr.out).c1
    have b2 := (HB.out.q qr.out).c2
    have b0' := (HB'.out.q qr.out).c0
    have b1' := (HB'.out.q qr.out).c1
    have b2' := (HB'.out.q qr.out).c2
    by_cases hlt : k < c.N.length
    · obtain ⟨ad, e, hb, c0, c1⟩ := (HR.out.n.q qr.out).pair_at hlt
      obtain ⟨ad', e', hb', c0', c1'⟩ := (HR'.out.n.q qr.out).pair_at hlt
      have j0 : (0 : Int) ≤ (k : Int) := Int.natCast_nonneg _
      have j1 : (k : Int) < (c.N.length : Int) := by omega
      have hnq := fun u => run_neq_note u c.N[k].1 c.N[k].2
      rw [e] at b1
      rw [e'] at b1'
      clear e e'
      go_wp2_with fail
      go_quiet (fail)
      go_wp2_with fail
      go_roundw
      case rel => exact ⟨k + 1, by omega, by go_num, Lib.hid (by obtain ⟨d, rfl⟩ := HD.out; exact ⟨_, drewN_add _ _ _⟩)⟩
      case measure => simp [intOf]; omega
    · go_wp2_with fail
      refine (ints_same _ _ _ _ _ _ c.V _ rfl rfl (HR.out.v.q qr.out) (HR'.out.v.q qr.out) fv).mono ?_
      rintro e w1 ⟨rfl, hd1⟩
      have q1 := Lib.hid (q_drewN _ hd1)
      clear b0 b1 b0' b1' hd1
      have b2 := (HB.out.q (qr.out.trans q1.out)).c2
      have b2' := (HB'.out.q (qr.out.trans q1.out)).c2
      go_wp2_with fail
      refine (ints_same _ _ _ _ _ _ c.M _ rfl rfl (HR.out.m.q (qr.out.trans q1.out)) (HR'.out.m.q (qr.out.trans q1.out)) fm).mono ?_
      rintro e w2 ⟨rfl, hd2⟩
      have q2 := Lib.hid (q_drewN _ hd2)
      clear hd2
      go_wp2_with fail
      go_ret
      exact ⟨rfl, q0.trans ((qr.out.trans q1.out).trans q2.out)⟩
end Go.Proofs.YtnifmfdlocgefaaGreat.Tr

namespace Go.Proofs.YtnifmfdlocgefaaGreat.Tr
open Go.RowKit Kit

def OutPostE (c : Cells) (er : Int) (w : World) (e : Ending) (w' : World) : Prop :=
  ∃ g1 k1 g2 k2 g3 k3, e = .returned (.tuple #[.agg #[.slice (some ⟨g1, 0, none⟩) c.V.length k1, .slice (some ⟨g2, 0, none⟩) c.N.length k2, .slice (some ⟨g3, 0, none⟩) c.M.length k3], .int .i64 er]) ∧ Out w w' c g1 k1 g2 k2 g3 k3

/-- the boxes at a call's start: what came in, and the result's cells -/
theorem boxes (w : World) (a b c : Value) (t : TypeId) : ∃ W0, W0 = (w.alloc (Obj.cells #[a, b, c] t)).alloc (Obj.cells #[Value.slice none 0 0, Value.slice none 0 0, Value.slice none 0 0] t) ∧ Q w W0 ∧ W0.heap.size = w.heap.size + 2 ∧
    Box3 W0 w.heap.size a b c ∧ Box3 W0 (w.heap.size + 1) (Value.slice none 0 0) (Value.slice none 0 0) (Value.slice none 0 0) := by
  refine ⟨_, rfl, ((Q.refl w).alloc _).alloc _, by simp, (Box3.new w a b c t).q ((Q.refl _).alloc _), ?_⟩
  have X := Box3.new (w.alloc (Obj.cells #[a, b, c] t)) (Value.slice none 0 0) (Value.slice none 0 0) (Value.slice none 0 0) t
  rwa [World.size_alloc] at X

theorem src1 (w : World) (v : Value) (t : TypeId) : ∀ j u, [v][j]? = some u → (w.alloc (.cells #[v] t)).cell? ((⟨w.heap.size, 0, none⟩ : Addr).add j) = some u := by
  intro j u hu
  rw [add_zero_head, cell_of_row _ _ _ _ _ _ (heap_alloc_new w _)]
  simpa using hu

end Go.Proofs.YtnifmfdlocgefaaGreat.Tr
