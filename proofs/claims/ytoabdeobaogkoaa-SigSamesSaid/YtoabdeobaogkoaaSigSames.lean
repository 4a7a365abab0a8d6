/-
  SigSames holds: a row of constructors is the same as itself, not as one that is shorter, and as one with another constructor in a place just if that is the same. No conditions.
-/
import Derived.Test.YtoabdeobaogkoaaSigI
import Derived.Test.YtoabdeobaogkoaaSigOpen
import Derived.Test.YtoabdeobaogkoaaKitRows
import Derived.Test.YtoabdeobaogkoaaRows
namespace Go.Proofs.Ytoabdeobaogkoaa.sigSames
open Go.ChangeShapes Go.WideShapes Go.ChangeAt Go.RowKit Kit Sg

theorem cellsOf_set (nm ar : ByteArray) : ∀ (l : List Sig) (k : Nat), ((cellsOf l).set (k * 2) (.string nm)).set (k * 2 + 1) (.string ar) = cellsOf (l.set k (nm, ar))
  | [], k => by simp [cellsOf]
  | s :: l, 0 => rfl
  | s :: l, k + 1 => by
    rw [show (k + 1) * 2 = k * 2 + 1 + 1 by omega]
    show _ = cellsOf (s :: l.set k (nm, ar))
    rw [cellsOf, cellsOf, ← cellsOf_set nm ar l k]
    rfl
theorem sigEq_set : ∀ (l : List Sig) (k : Nat) (s : Sig) (h : k < l.length), sameG l (l.set k s) = sigEq l[k] s
  | a :: l, 0, s, _ => by
    show (sigEq a s && sameG l l) = sigEq a s
    rw [(sameG_iff l l rfl).2 rfl, Bool.and_true]
  | a :: l, k + 1, s, h => by
    show (sigEq a a && sameG l (l.set k s)) = _
    rw [(sigEq_iff a a).2 rfl, Bool.true_and, sigEq_set l k s (by simpa using h)]
    rfl
theorem same_set (l : List Sig) (k : Nat) (s : Sig) (h : k < l.length) : sameB l (l.set k s) = sigEq l[k] s := by
  unfold sameB
  rw [decide_eq_true (by simp), Bool.true_and, sigEq_set l k s h]

theorem _root_.Go.Proofs.Ytoabdeobaogkoaa.Sg.Row.take {w : World} {B : Nat} {A : Option Addr} {l : List Sig} (h : Row w B A l) (n : Nat) : Row w B A (l.take n) := fun h0 => by
  obtain ⟨ad, e, hlt, hc⟩ := h (by simp at h0; omega)
  refine ⟨ad, e, hlt, fun i s hs => hc i s ?_⟩
  rw [List.getElem?_take] at hs
  split at hs
  · exact hs
  · cases hs

set_option maxRecDepth 100000 in
set_option maxHeartbeats 1000000 in
theorem walkAt (A : Option Addr) (c : Nat) (l : List Sig) (k : Nat) (nm ar : ByteArray) (w : World) (hr : Row w w.heap.size A l) (hl : l.length ≤ maxLen) (hf : fewB l = true) (hk : k < l.length) (hc : l.length ≤ c) :
    Calls Try.prog 7 #[.slice A l.length c, .int .i64 k, .agg #[.string nm, .string ar]] w fun e w' => e = .returned (.bool true) ∧ Q w w' := by
  have q0 := (Q.refl w).alloc (Obj.cells #[Value.string nm, Value.string ar] 24)
  have hr0 := Lib.hid (hr.q (Nat.le_refl _) q0)
  have hlen := few_len hf
  clear hr
  obtain ⟨i0, hi, hz0, hz1, hz2⟩ := info_parts sigInfo
  have Hi := Lib.hid hi
  have Hz0 := Lib.hid hz0
  have Hz1 := Lib.hid hz1
  have Hz2 := Lib.hid hz2
  clear hi hz0 hz1 hz2
  have d1 : decide ((k : Int) < 0) = false := by simp
  have d2 : decide ((l.length : Int) ≤ (k : Int)) = false := by simp; omega
  go_enter Try.func7, Try.ntmps7
  go_wp2_with fail
  refine (shown_any _).mono ?_
  rintro e w1 ⟨rfl, q1⟩
  have q01 := q0.trans q1
  have hr1 := Lib.hid (hr0.out.q (by simp) q1)
  go_wp2_with fail
  refine (few_any _ _ _ l _ rfl (hr1.out.more q01.size)).mono ?_
  rintro e w2 ⟨rfl, q2⟩
  have q02 := q01.trans q2
  have hr2 := Lib.hid (hr1.out.q q01.size q2)
  have q12 := q1.trans q2
  have hlt2 : w.heap.size < w2.heap.size := by have := q12.size; simp at this; omega
  have k0 : w2.cell? ⟨w.heap.size, 0, none⟩ = some (.string nm) := by rw [q12.cell (by simp)]; simp
  have k1 : w2.cell? ⟨w.heap.size, 1, none⟩ = some (.string ar) := by rw [q12.cell (by simp)]; simp
  have hsrc : Hid (∀ W' : World, Below w2.heap.size w2 W' → Src W' A (cellsOf l)) := fun W' hb h0 => ((hr2.out.q q02.size hb).cells h0)
  go_upto_region 5 with (at_builtin; refine wpList_append_src _ rfl (.tmp 24) (.tmp 25) _ rfl w2.heap.size 24 i0 _ 2 32 Try.underlying22 Hi.out Hz0.out Hz1.out Hz2.out rfl (by omega) (.slice (some ⟨w2.heap.size, 0, none⟩) 0 0) 0 [] rfl (own_empty (Nat.le_refl _) (heap_alloc_new w2 _)) A l.length c (cellsOf l) rfl (cellsOf_length l) (hsrc.out _ (by go_grown)) (cellsOf_one l) (by unfold maxLen; omega) (by omega) (by simp) ?_; intro v1 w3 own1 gr1 at1; obtain ⟨g, cap, rfl, hg⟩ := own1.form (by omega))
  have b3 : Below w2.heap.size w2 w3 := Below.grown (by go_grown) gr1 (by simp) (by simp [Value.ownBlock])
  simp only [Nat.zero_add, List.nil_append] at own1
  have kk0 : w3.cell? ⟨w.heap.size, 0, none⟩ = some (.string nm) := by rw [b3.cell hlt2]; exact k0
  have kk1 : w3.cell? ⟨w.heap.size, 1, none⟩ = some (.string ar) := by rw [b3.cell hlt2]; exact k1
  have cA : w3.cell? ⟨g, k * 2, none⟩ = some (.string l[k].1) := by rw [own1.cellAt _ (by omega), cellsOf_even, List.getElem?_eq_getElem hk]; rfl
  have cB : w3.cell? ⟨g, k * 2 + 1, none⟩ = some (.string l[k].2) := by rw [own1.cellAt _ (by omega), cellsOf_odd, List.getElem?_eq_getElem hk]; rfl
  have fA := own1.frozenAt (k * 2)
  have fB := own1.frozenAt (k * 2 + 1)
  obtain ⟨own2, gr2⟩ := own1.stored (k * 2) (.string nm)
  obtain ⟨own3, gr3⟩ := own2.stored (k * 2 + 1) (.string ar)
  rw [cellsOf_set] at own3
  have b4 : Below w2.heap.size w2 ((w3.setCell ⟨g, k * 2, none⟩ (.string nm)).setCell ⟨g, k * 2 + 1, none⟩ (.string ar)) :=
    (b3.grown gr2 b3.size (by simp; omega)).grown gr3 (by simp [World.setCell]; exact b3.size) (by simp; omega)
  have Own3 := Lib.hid own3
  clear own1 own2 own3 gr1 gr2 gr3 at1 k0 k1
  go_upto_region 6 with fail
  have hrl0 := hr2.out.q q02.size b4
  have hrm0 := Row.of_own Own3.out
  have kw0 := b4.cell (p := ⟨w.heap.size, 0, none⟩) hlt2
  have kw1 := b4.cell (p := ⟨w.heap.size, 1, none⟩) hlt2
  rw [← b3.cell (p := ⟨w.heap.size, 0, none⟩) hlt2, kk0] at kw0
  rw [← b3.cell (p := ⟨w.heap.size, 1, none⟩) hlt2, kk1] at kw1
  clear kk0 kk1 cA cB fA fB Own3 b3
  generalize (w3.setCell ⟨g, k * 2, none⟩ (.string nm)).setCell ⟨g, k * 2 + 1, none⟩ (.string ar) = W at *
  have qW : Q w W := q02.trans b4
  obtain ⟨ad, rfl, hba, l0, l1⟩ := hrl0.at_ hk
  have hrl := Lib.hid (hrl0.more qW.size)
  have hrm := Lib.hid hrm0
  obtain ⟨n1, hn1⟩ : ∃ n1, n1 = l.length - 1 := ⟨_, rfl⟩
  have Hn1 := Lib.hid hn1
  have hrt := Lib.hid ((hrl0.more qW.size).take n1)
  clear hrl0 hrm0
  have hq : ∀ u : World, (binOp .eql 24 (.agg #[.string l[k].1, .string l[k].2]) (.agg #[.string nm, .string ar])).run Try.prog u = .ok (.bool (sigEq l[k] (nm, ar))) u := fun u => run_eql_sig u l[k] (nm, ar)
  have hq2 := sig_guard
  have Hll := Lib.hid ((sameB_iff l l).2 rfl)
  have Hlt : Hid (sameB l (l.take n1) = false) := by unfold Hid sameB; rw [decide_eq_false (by simp; omega)]; rfl
  have Hlm := Lib.hid (same_set l k (nm, ar) hk)
  have Hs1 : Hid (n1 = (l.take n1).length) := by unfold Hid; simp; omega
  have Hs2 : Hid (l.length = (l.set k (nm, ar)).length) := by unfold Hid; simp
  have hlm : l.length ≤ maxLen := hl
  have i1 : (0 : Int) ≤ (k : Int) := by omega
  have i2 : (k : Int) < (l.length : Int) := by omega
  have i3 : (0 : Int) ≤ (l.length : Int) - 1 := by omega
  have i4 : (l.length : Int) - 1 ≤ (c : Int) := by omega
  have hsl : ∀ u : World, (Instr.slice 22 (.slice (some ad) l.length c) none (some (.int .i64 ((l.length : Int) - 1))) none).run Try.prog u = .ok (.slice (some ad) n1 c) u := fun u => by
    rw [run_slice_h u 22 (some ad) l.length c (by kernel_rfl) .i64 _ i3 i4, show (sizeOf (Try.prog.elem 22)).run Try.prog u = .ok 2 u by kernel_rfl]
    show Result.ok (sliced (some ad) 0 ((l.length : Int) - 1).toNat c 2) u = _
    rw [show ((l.length : Int) - 1).toNat = n1 by omega]
    unfold sliced
    rw [if_neg (by omega)]
    rfl
  have hc0 : ¬ c = 0 := by omega
  clear hn1
  have e2 : IntKind.i64.wrap ((l.length : Int) - 1) = (l.length : Int) - 1 := IntWalk.i64_in _ (by omega)
  cases hE : sigEq l[k] (nm, ar)
  all_goals
    rw [hE] at hq Hlm
    have C1 : Hid (∀ n, Calls Try.prog 18 #[.slice (some ad) l.length c, .slice (some ad) l.length c] (W.drewN n) fun e w' => e = .returned (.bool true) ∧ ∃ m, w' = (W.drewN n).drewN m) := fun n => by
      have h := same_q (some ad) (some ad) _ c _ c l l (W.drewN n) rfl rfl hrl.out hrl.out hlm
      rw [Hll.out] at h
      exact h
    have C2 : Hid (∀ n, Calls Try.prog 18 #[.slice (some ad) l.length c,   .slice (some ad) n1 c] (W.drewN n) fun e w' => e = .returned (.bool false) ∧ ∃ m, w' = (W.drewN n).drewN m) := fun n => by
      have h := same_q (some ad) (some ad) _ c _ c l (l.take n1) (W.drewN n) rfl Hs1.out hrl.out hrt.out hlm
      rw [Hlt.out] at h
      exact h
    have C3 := Lib.hid (fun n => same_q (some ad) (some ⟨g, 0, none⟩) _ c _ cap l (l.set k (nm, ar)) (W.drewN n) rfl Hs2.out hrl.out hrm.out hlm)
    rw [Hlm.out] at C3
    have C4 : Hid (∀ n, Calls Try.prog 13 #[.slice (some ad) l.length c, .slice (some ad) l.length c] (W.drewN n) fun e w' => e = .returned (.bool true) ∧ ∃ m, w' = (W.drewN n).drewN m) := fun n => by
      have h := refSame_q (some ad) (some ad) _ c _ c l l (W.drewN n) rfl rfl hrl.out hrl.out hlm
      rw [Hll.out] at h
      exact h
    go_quiet (first
      | (go_at_call 13; exact Calls.quiet_of (C4.out _))
      | (go_at_call 18; with_reducible exact Calls.quiet_of (C1.out _))
      | (go_at_call 18; with_reducible exact Calls.quiet_of (C2.out _))
      | (go_at_call 18; with_reducible exact Calls.quiet_of (C3.out _)))
    go_wp2_with fail
    go_ret
    exact ⟨rfl, qW.drewN _⟩

set_option maxRecDepth 100000 in
set_option maxHeartbeats 400000 in
theorem walk (A : Option Addr) (n c : Nat) (l : List Sig) (a : Int) (nm ar : ByteArray) (w : World) (hn : n = l.length) (hr : Row w w.heap.size A l) (hl : l.length ≤ maxLen) (hc : n ≤ c) :
    Calls Try.prog 7 #[.slice A n c, .int .i64 a, .agg #[.string nm, .string ar]] w fun e w' => e = .returned (.bool true) ∧ Q w w' := by
  subst hn
  have q0 := (Q.refl w).alloc (Obj.cells #[Value.string nm, Value.string ar] 24)
  have hr0 := Lib.hid (hr.q (Nat.le_refl _) q0)
  cases hf : fewB l
  · clear hr
    go_enter Try.func7, Try.ntmps7
    go_wp2_with fail
    refine (shown_any _).mono ?_
    rintro e w1 ⟨rfl, q1⟩
    go_wp2_with fail
    refine (few_any _ _ _ l _ rfl ((hr0.out.q (by simp) q1).more (by have := (q0.trans q1).size; omega))).mono ?_
    rintro e w2 ⟨rfl, q2⟩
    go_wp2_with fail
    go_ret
    exact ⟨rfl, (q0.trans q1).trans q2⟩
  · by_cases ha : a < 0
    · have d1 : decide (a < 0) = true := by simpa using ha
      clear hr
      go_enter Try.func7, Try.ntmps7
      go_wp2_with fail
      refine (shown_any _).mono ?_
      rintro e w1 ⟨rfl, q1⟩
      go_wp2_with fail
      refine (few_any _ _ _ l _ rfl ((hr0.out.q (by simp) q1).more (by have := (q0.trans q1).size; omega))).mono ?_
      rintro e w2 ⟨rfl, q2⟩
      go_wp2_with fail
      go_ret
      exact ⟨rfl, (q0.trans q1).trans q2⟩
    · by_cases hb : (l.length : Int) ≤ a
      · have d1 : decide (a < 0) = false := by simpa using ha
        have d2 : decide ((l.length : Int) ≤ a) = true := by simpa using hb
        clear hr
        go_enter Try.func7, Try.ntmps7
        go_wp2_with fail
        refine (shown_any _).mono ?_
        rintro e w1 ⟨rfl, q1⟩
        go_wp2_with fail
        refine (few_any _ _ _ l _ rfl ((hr0.out.q (by simp) q1).more (by have := (q0.trans q1).size; omega))).mono ?_
        rintro e w2 ⟨rfl, q2⟩
        go_wp2_with fail
        go_ret
        exact ⟨rfl, (q0.trans q1).trans q2⟩
      · obtain ⟨k, rfl⟩ := Int.eq_ofNat_of_zero_le (by omega : 0 ≤ a)
        exact walkAt A c l k nm ar w hr hl hf (by omega) hc

set_option maxRecDepth 100000 in
theorem lifted (os : Os) (started : os.Started) (H : Type) (enc : TypeId × Value → H) :
    ReturnsInHanded {} Try.checked os 7 .any (Rows.sigSamesSpec.pre6 enc Try.prog Try.f7 Rows.sigSamesRow.domain false) (Rows.sigSamesSpec.post enc Try.prog Try.f7 false true false false) := by
  refine returnsInHanded_of_change (C := Try.checked) own started (by kernel_rfl) Try.func7
    (ChangeSpec.witness6 (enc := enc) (C := Try.checked) false ⟨#[], #[.slice none 0 0, .int .i64 0, .agg #[.string .empty, .string .empty]], []⟩ 8 (by kernel_rfl) (by kernel_rfl) (by kernel_rfl) (by kernel_rfl)) ?_
  intro W base args ds gs before hval0 hW hcnd _
  have hval : ∀ (j : Nat) t v, Try.f7.params[j]? = some t → args[j]? = some v → Value.okWide Try.prog W .any base t v := hval0
  have hW' := hW
  obtain ⟨p, q, hA0, hV, rfl, hfz, hnd⟩ := hW
  have hA : DataW.TrodAll enc Try.prog W 0 (fun _ => true) true Try.f7.params.toList args.toList ds p := hA0
  rw [Try.params7] at hA hval
  obtain ⟨v0, vs0, d0, ds0, p0, q0, hargs, rfl, rfl, h0, r0⟩ := trodAll_cons hA
  obtain ⟨v1, vs1, d1, ds1, p1, q1, rfl, rfl, rfl, h1, r1⟩ := trodAll_cons r0
  obtain ⟨v2, vs2, d2, ds2, p2, q2, rfl, rfl, rfl, h2, r2⟩ := trodAll_cons r1
  obtain ⟨rfl, rfl, rfl⟩ := trodAll_nil r2
  obtain rfl : args = #[v0, v1, v2] := by cases args; simp_all
  obtain ⟨rfl, rfl⟩ := trodVars_none hV
  obtain ⟨A, n, c, l, rfl, hn, hr, hl, hs, hc⟩ := open_sigs (hval 0 22 v0 rfl rfl) h0
  obtain ⟨a1, rfl, rfl, rfl, w1⟩ := open_int Try.underlying3 (hval 1 3 v1 rfl rfl) h1
  obtain ⟨nm, ar, rfl, hz⟩ := open_sig (hval 2 24 v2 rfl rfl) h2
  clear hA0 hval0
  refine (walk A n c l a1 nm ar W hn hr hl hc).mono fun e W' ⟨he, hg⟩ => ?_
  subst he
  exact ⟨_, rfl, post_law laid (by rw [Try.params7]; decide +kernel) rfl rfl (by kernel_rfl) Try.underlying4 hW' hg⟩

/-- THE STATEMENT -/
theorem proved : Rows.SigSamesSaid :=
  OpenClaim.holds_of_wide 7 Try.f7 rfl rfl rfl rfl rfl rfl rfl ⟨rfl, rfl, rfl, rfl, rfl⟩ rfl rfl rfl rfl rfl (by kernel_rfl) Try.func7 (by kernel_rfl)
    (of_decide_eq_true (by kernel_rfl)) (by unfold Func.isWrapper; first | (rw [if_pos (by decide +kernel)]; kernel_rfl) | (rw [if_neg (by decide +kernel)]; exact ⟨rfl, rfl⟩))
    (fun os started H enc _ => lifted os started H enc)
end Go.Proofs.Ytoabdeobaogkoaa.sigSames
