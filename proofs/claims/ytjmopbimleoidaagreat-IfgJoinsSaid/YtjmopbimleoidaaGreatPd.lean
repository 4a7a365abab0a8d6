/-
  What the proofs lean on, part 4 of 12.
-/
import Derived.Test.YtjmopbimleoidaaGreatPb
import Derived.Test.YtjmopbimleoidaaGreatPc
import Derived.Deep.RegionHeld3
import Derived.Deep.SlicePairs
import Derived.Deep.Matrix
import Derived.Lib.SmallJoins
import Derived.SizedLaws
import Derived.Laws.EntriesVeiled
namespace Go.Proofs.YtjmopbimleoidaaGreat.Tr
open Go.RowKit Kit

set_option maxHeartbeats 400000 in
theorem ints_same (A B : Option Addr) (n c n' c' : Nat) (l : List Int) (w : World) (hn : n = l.length) (hn' : n' = l.length) (hr : Rds w w.heap.size A (cellsI l)) (hr' : Rds w w.heap.size B (cellsI l)) (hl : l.length ≤ 1000000) :
    Calls Tryz.prog 16 #[.slice A n c, .slice B n' c'] w fun e w' => e = .returned (.bool true) ∧ ∃ d, w' = w.drewN d := by
  subst hn
  subst hn'
  have hne : ((l.length : Int) != (l.length : Int)) = false := by simp
  have HR := Lib.hid hr
  have HR' := Lib.hid hr'
  clear hr hr'
  go_enter Tryz.func16, Tryz.ntmps16
  go_wp2_with fail
  go_loopw [5] (fun i wr => ∃ k : Nat, k ≤ l.length ∧ i = .int .i64 k ∧ ∃ d, wr = w.drewN d) (fun i _ => l.length - (intOf i).toNat)
  case atStart => exact ⟨0, Nat.zero_le _, rfl, 0, rfl⟩
  case round =>
    obtain ⟨k, hk, rfl, d, rfl⟩ := hrel
    by_cases hlt : k < l.length
    · obtain ⟨ad, e, hb, c0⟩ := HR.out.int_at hlt
      obtain ⟨ad', e', hb', c0'⟩ := HR'.out.int_at hlt
      have HE := Lib.hid e
      have HE' := Lib.hid e'
      clear e e'
      rw [HE.out, HE'.out]
      have he' : (l[k] != l[k]) = false := by simp
      go_wp2_with fail
      go_region
      all_goals go_wp2_with fail
      all_goals go_roundw
      case rel => exact ⟨k + 1, by omega, by go_num, d + 1, rfl⟩
      case measure => simp [intOf]; omega
    · go_wp2_with fail
      go_ret
      exact ⟨rfl, d, rfl⟩
theorem drewN_add (w : World) (a b : Nat) : (w.drewN a).drewN b = w.drewN (a + b) := by simp [World.drewN, Nat.add_assoc]
theorem q_drewN (w : World) {w' : World} (h : ∃ d, w' = w.drewN d) : Q w w' := by
  obtain ⟨d, rfl⟩ := h
  exact (Q.refl w).drewN d

def fewB (c : Cells) : Bool := decide ((c.V.length : Int) + c.N.length + c.M.length ≤ 500)
/-- a row that is written: nil, or in a block of its own, from block B on -/
def OwnO (w : World) (B : Nat) (A : Option Addr) (cs : List Value) : Prop := 0 < cs.length → ∃ g, A = some ⟨g, 0, none⟩ ∧ B ≤ g ∧ OwnC w g cs
theorem OwnO.q {w w' : World} {B : Nat} {A : Option Addr} {cs : List Value} (h : OwnO w B A cs) (q : Q w w') : OwnO w' B A cs := fun h0 => by
  obtain ⟨g, e, hb, hc⟩ := h h0
  exact ⟨g, e, hb, hc.q q⟩
theorem OwnO.take {w : World} {B : Nat} {A : Option Addr} {cs : List Value} (h : OwnO w B A cs) (n : Nat) : OwnO w B A (cs.take n) := fun h0 => by
  obtain ⟨g, e, hb, hc⟩ := h (by rw [List.length_take] at h0; omega)
  exact ⟨g, e, hb, hc.take n⟩

def RefCells (c : Cells) (w : World) (e : Ending) (w' : World) : Prop := ∃ v, e = .returned (.tuple #[v, .bool (backs c.N c.V).isSome]) ∧ Q w w'

theorem back1_nil (was : Int) (v : List Int) (h : v.length = 0) : back1 (-1, was) v = none := by unfold back1; rw [if_pos rfl, if_pos h]
theorem back1_cut (was : Int) (v : List Int) (h : 0 < v.length) : back1 (-1, was) v = some (v.take (v.length - 1)) := by unfold back1; rw [if_pos rfl, if_neg (by omega)]
theorem back1_put (a : Nat) (was : Int) (v : List Int) (h : a < v.length) : back1 ((a : Int), was) v = some (v.set a was) := by
  unfold back1
  rw [if_neg (by show ¬ (a : Int) = -1; omega), if_pos ⟨by show (0 : Int) ≤ a; omega, by show (a : Int) < _; omega⟩]; rfl
theorem back1_no (n : Note) (v : List Int) (h1 : n.1 ≠ -1) (h : ¬ (0 ≤ n.1 ∧ n.1 < v.length)) : back1 n v = none := by unfold back1; rw [if_neg h1, if_neg h]
theorem slice_toJ (A : Option Addr) (n c l : Nat) (i : Int) (hi : i = l) (h : l ≤ c) (u : World) : (Instr.slice 24 (.slice A n c) none (some (.int .i64 i)) none).run Tryz.prog u = .ok (.slice A l c) u := by
  subst hi
  obtain ⟨i0, hi, hz0, hz1, hz2⟩ := info_parts intInfo
  simp [Instr.slice, run_underlying Tryz.underlying24, Instr.sliceBounds, Instr.sliceBound, asIntOf, sizeOf, typeInfo, hi, h, Addr.add]

set_option maxRecDepth 100000 in
set_option maxHeartbeats 4000000 in
theorem refCells_any (c : Cells) (A D E : Option Addr) (n1 k1 n2 k2 n3 k3 : Nat) (w : World) (h1 : n1 = c.V.length) (h2 : n2 = c.N.length) (h3 : n3 = c.M.length) (h : Rd w c A k1 D k2 E k3) (hf : Few c 1000000) :
    Calls Tryz.prog 126 #[.agg #[.slice A n1 k1, .slice D n2 k2, .slice E n3 k3], .int .i64 0] w (RefCells c w) := by
  subst h1 h2 h3
  obtain ⟨fv, fn, fm⟩ := hf
  obtain ⟨i0, hi, hz0, hz1, hz2⟩ := info_parts intInfo
  have Hi := Lib.hid hi
  have Hz0 := Lib.hid hz0
  have Hz1 := Lib.hid hz1
  have Hz2 := Lib.hid hz2
  clear hi hz0 hz1 hz2
  have q0 := (Q.refl w).alloc (Obj.cells #[Value.slice A c.V.length k1, Value.slice D c.N.length k2, Value.slice E c.M.length k3] 29)
  have HB := Lib.hid (Box3.new w (Value.slice A c.V.length k1) (Value.slice D c.N.length k2) (Value.slice E c.M.length k3) 29)
  have HR := Lib.hid (h.q q0)
  have HN := Lib.hid h.n
  clear h
  go_enter Tryz.func126, Tryz.ntmps126
  go_upto_region 1 with fail
  generalize w.alloc (Obj.cells #[Value.slice A c.V.length k1, Value.slice D c.N.length k2, Value.slice E c.M.length k3] 29) = W0 at *
  have b0 := HB.out.c0
  have b1 := HB.out.c1
  have hlt0 := HB.out.lt
  have qa := (Q.refl W0).alloc (Obj.cells #[] 3)
  have HsV := Lib.hid (HR.out.v.q qa)
  have Ho := Lib.hid (own_empty (base := w.heap.size + 1) (e := 3) (size := 1) (by omega) (heap_alloc_new W0 (Obj.cells #[] 3)))
  go_upto_region 2 with (at_builtin; refine wpList_append_src _ rfl (.tmp 9) (.tmp 11) _ rfl (w.heap.size + 1) 3 i0 _ 1 8 Tryz.underlying24 Hi.out Hz0.out Hz1.out Hz2.out rfl (by omega) (.slice (some ⟨W0.heap.size, 0, none⟩) 0 0) 0 [] rfl Ho.out A c.V.length k1 (cellsI c.V) rfl (by rw [cellsI_len]; omega) HsV.out.src (cellsI_one c.V) (by unfold maxLen; omega) (by omega) (by simp; omega) ?_; intro v' w' own' gr' _; have Own := Lib.hid own'; have q2 : Q W0 w' := qa.grown gr' (by simp) (by simp [Value.ownBlock]); clear own' gr')
  have own2 := Own.out
  rw [Nat.zero_add, List.nil_append] at own2
  obtain ⟨A2, K, hv', hK, hO⟩ : ∃ A c', v' = .slice A c.V.length c' ∧ c.V.length ≤ c' ∧ OwnO w' (w.heap.size + 1) A (cellsI c.V) := by
    have h2 := own2
    obtain ⟨hl, ⟨rfl, h0⟩ | ⟨g, cap, cur, rfl, hg, hh, hc, _⟩⟩ := own2
    · exact ⟨none, 0, by rw [h0], by omega, fun h => by rw [cellsI_len] at h; omega⟩
    · exact ⟨_, cap, rfl, hc, fun _ => ⟨g, rfl, hg, OwnC.of_row h2⟩⟩
  have HO := Lib.hid hO
  have HB2 := Lib.hid (HB.out.q q2)
  have HR2 := Lib.hid (HR.out.q q2)
  have q02 := Lib.hid (q0.trans q2)
  have HN2 := Lib.hid (HN.out.keep q02.out)
  have b1' := HB2.out.c1
  have hl2 := HB2.out.lt
  have HV := Lib.hid hv'
  have Hst : Hid ((backs c.N c.V).isSome = (backR (c.N.take c.N.length).reverse c.V).isSome) := by rw [List.take_length]; exact Lib.hid rfl
  clear own2 hv' hO b0 b1 hlt0 qa Own Ho HsV HR HB q0 q2
  rw [HV.out]
  go_wp2_with fail
  go_loopw [6, 7] (fun vv i wr => ∃ (B : Option Addr) (v : List Int) (k : Nat) (j : Int), k ≤ c.N.length ∧ i = .int .i64 j ∧ Hid (j = (k : Int) - 1) ∧ vv = .slice B v.length K ∧ v.length ≤ K ∧ v.length ≤ 1000000 ∧ Hid (OwnO wr (w.heap.size + 1) B (cellsI v)) ∧ Hid (Q w wr) ∧ Hid (Box3 wr w.heap.size (Value.slice A c.V.length k1) (Value.slice D c.N.length k2) (Value.slice E c.M.length k3)) ∧ Hid (Rds wr w.heap.size D (cellsP c.N)) ∧ Hid ((backs c.N c.V).isSome = (backR (c.N.take k).reverse v).isSome)) (fun _ i _ => (intOf i + 1).toNat)
  case atStart => exact ⟨A2, c.V, c.N.length, _, Nat.le_refl _, rfl, Lib.hid rfl, rfl, hK, fv, HO, q02, HB2, HN2, Hst⟩
  case round =>
    clear HO q02 HB2 HR2 HN HN2 Hst b1' hl2
    obtain ⟨B, v, k, j, hk, rfl, HJ, rfl, hvK, hvl, HO, HQ, HB, HR, HH⟩ := hrel
    have b1 := HB.out.c1
    rcases k with _ | k
    · obtain rfl : j = -1 := by have := HJ.out; simpa using this
      have HV0 : Hid ((backs c.N c.V).isSome = true) := HH.out
      go_wp2_with fail
      go_ret2
      exact ⟨_, by rw [HV0.out]; rfl, HQ.out⟩
    · obtain rfl : j = (k : Int) := by have := HJ.out; omega
      have hkl : k < c.N.length := by omega
      have hj0 : (0 : Int) ≤ (k : Int) := Int.natCast_nonneg _
      have HS := HH.out
      rw [backR_at c.N k hkl] at HS
      obtain ⟨ad, e, hb, c0, c1⟩ := HR.out.pair_at hkl
      have HE := Lib.hid e
      clear e
      have hlt := HB.out.lt
      generalize c.N[k] = x at *
      obtain ⟨a, was⟩ := x
      have q1 := (Q.refl wr).alloc (Obj.cells #[.int .i64 a, .int .i64 was] 113)
      by_cases ha : a = -1
      · subst ha
        by_cases hv0 : v.length = 0
        · have HF : Hid ((backs c.N c.V).isSome = false) := by rw [back1_nil was v hv0] at HS; exact Lib.hid HS
          have dl : decide (0 < v.length) = false := decide_eq_false (by omega)
          clear HS hv0
          rw [HE.out] at b1
          go_wp2_with fail
          go_ret2
          exact ⟨_, by rw [HF.out]; rfl, HQ.out.alloc _⟩
        · have hv1 : 0 < v.length := by omega
          have HF : Hid ((backs c.N c.V).isSome = (backR (c.N.take k).reverse (v.take (v.length - 1))).isSome) := by rw [back1_cut was v hv1] at HS; exact Lib.hid HS
          have dl : decide (0 < v.length) = true := decide_eq_true hv1
          have hsl := fun u => slice_toJ B v.length K (v.length - 1) ((v.length : Int) - 1) (by omega) (by omega) u
          have hlen : Hid ((v.take (v.length - 1)).length = v.length - 1) := by unfold Hid; rw [List.length_take]; omega
          have HOt := HO.out.take (v.length - 1)
          have HOt' : Hid (OwnO wr (w.heap.size + 1) B (cellsI (v.take (v.length - 1)))) := by rw [show (cellsI v).take (v.length - 1) = cellsI (v.take (v.length - 1)) by simp [cellsI, List.map_take]] at HOt; exact HOt
          clear HS hv0 HOt
          rw [HE.out] at b1
          go_wp2_with fail
          go_roundw
          case rel => exact ⟨B, v.take (v.length - 1), k, _, by omega, rfl, Lib.hid (by omega), by rw [hlen.out], by rw [hlen.out]; omega, by rw [hlen.out]; omega, Lib.hid (HOt'.out.q q1), Lib.hid (HQ.out.alloc _), Lib.hid (HB.out.q q1), Lib.hid (HR.out.keep (q1.mono (Nat.le_of_lt hlt))), HF⟩
          case measure => simp [intOf]
      · by_cases hp : 0 ≤ a ∧ a < v.length
        · obtain ⟨m, rfl⟩ := Int.eq_ofNat_of_zero_le hp.1
          have hml : m < v.length := by omega
          have HF : Hid ((backs c.N c.V).isSome = (backR (c.N.take k).reverse (v.set m was)).isSome) := by rw [back1_put m was v hml] at HS; exact Lib.hid HS
          have dn : (((m : Nat) : Int) == -1) = false := by simp
          have d1 : decide (0 ≤ ((m : Nat) : Int)) = true := decide_eq_true hp.1
          have d2 : decide (m < v.length) = true := decide_eq_true hml
          obtain ⟨g, e, hg, hc⟩ := HO.out (by rw [cellsI_len]; omega)
          have HE2 := Lib.hid e
          have HC := Lib.hid (hc.q q1)
          have HCw := Lib.hid hc
          have oc := (HC.out.2 m _ (cellsI_at hml)).1
          have of := (HC.out.2 m _ (cellsI_at hml)).2
          have hgs := hc.1
          clear HS hp ha e hc
          rw [HE.out] at b1
          rw [HE2.out]
          go_wp2_with fail
          have hg2 := setCell_grown wr g m (.int .i64 was)
          have q3 := (Q.refl (wr.setCell ⟨g, m, none⟩ (.int .i64 was))).alloc (Obj.cells #[.int .i64 (m : Int), .int .i64 was] 113)
          have hz : (wr.setCell ⟨g, m, none⟩ (.int .i64 was)).heap.size = wr.heap.size := by simp [World.setCell]
          go_roundw
          case rel => exact ⟨some ⟨g, 0, none⟩, v.set m was, k, _, by omega, rfl, Lib.hid (by omega), by rw [List.length_set], by rw [List.length_set]; exact hvK, by rw [List.length_set]; exact hvl, Lib.hid (fun _ => ⟨g, rfl, hg, by rw [cellsI_set]; exact (HCw.out.set (by rw [cellsI_len]; exact hml) _).q q3⟩), Lib.hid ((grown_q hg2 HQ.out (by omega)).alloc _), Lib.hid ((HB.out.grown hg2 (by omega)).q q3), Lib.hid ((HR.out.keep (Below.grown (Below.refl w.heap.size wr) hg2 (Nat.le_of_lt HB.out.lt) (fun i e => by injection e with e; omega))).keep (q3.mono (by rw [hz]; exact Nat.le_of_lt HB.out.lt))), HF⟩
          case measure => simp [intOf]
        · have HF : Hid ((backs c.N c.V).isSome = false) := by rw [back1_no (a, was) v ha hp] at HS; exact Lib.hid HS
          have dn : (a == -1) = false := by simpa using ha
          by_cases h0 : 0 ≤ a
          · have d1 : decide (0 ≤ a) = true := decide_eq_true h0
            have d2 : decide (a < (v.length : Int)) = false := decide_eq_false (fun h => hp ⟨h0, h⟩)
            clear HS hp ha h0
            rw [HE.out] at b1
            go_wp2_with fail
            go_ret2
            exact ⟨_, by rw [HF.out]; rfl, HQ.out.alloc _⟩
          · have d1 : decide (0 ≤ a) = false := decide_eq_false h0
            clear HS hp ha h0
            rw [HE.out] at b1
            go_wp2_with fail
            go_ret2
            exact ⟨_, by rw [HF.out]; rfl, HQ.out.alloc _⟩

theorem note_struct : Tryz.prog.underlying 113 = some (.struct (Tryz.prog.fieldsOf 113)) := by kernel_rfl
theorem note_held : Tryz.prog.stoodInHeld 113 = false := by kernel_rfl
theorem note_fields : (Tryz.prog.fieldsOf 113).toList.map (fun f => (f.name == "_", f.type, f.offset)) = [(false, 3, 0), (false, 3, 1)] := by kernel_rfl
theorem part_int (w : World) (xs : Array Value) (k : Nat) (x : Int) (h : xs[k]? = some (.int .i64 x)) : (part 3 xs k).run Tryz.prog w = .ok (.int .i64 x) w := run_part_plain w (by kernel_rfl) h
theorem run_eq_note (w : World) (a b : Int) : (Op.equalIn 10000 113 (.agg #[.int .i64 a, .int .i64 b]) (.agg #[.int .i64 a, .int .i64 b])).run Tryz.prog w = .ok true w := by
  rw [show (10000 : Nat) = 9999 + 1 from rfl, run_equalIn_struct w 9999 _ _ _ note_struct note_held]
  have hf := note_fields
  match hl : (Tryz.prog.fieldsOf 113).toList with
  | [] => rw [hl] at hf; simp at hf
  | [_] => rw [hl] at hf; simp at hf
  | f :: g :: h :: r => rw [hl] at hf; simp at hf
  | [f, g] =>
    rw [hl] at hf
    simp only [List.map_cons, List.map_nil, List.cons.injEq, Prod.mk.injEq, and_true] at hf
    obtain ⟨⟨n0, t0, o0⟩, n1, t1, o1⟩ := hf
    have n0' : f.name ≠ "_" := by simpa using n0
    have n1' : g.name ≠ "_" := by simpa using n1
    have e : ∀ x y : Int, (Op.equalIn 9999 3 (.int .i64 x) (.int .i64 y)).run Tryz.prog w = .ok (x == y) w := fun x y => run_equalIn_int w 9998 _ .i64 .i64 x y Tryz.underlying3
    have p0 := part_int w #[.int .i64 a, .int .i64 b] 0 a rfl
    have p2 := part_int w #[.int .i64 a, .int .i64 b] 1 b rfl
    simp only [Op.eqFields, if_pos n0', if_pos n1', t0, t1, o0, o1, Sem.run_bind, p0, Result.andThen_ok, e, beq_self_eq_true]
    simp only [Bool.not_true, Bool.false_eq_true, if_false, Sem.run_bind, p2, Result.andThen_ok, e, beq_self_eq_true]
    simp [Sem.run_pure]
theorem run_neq_note (w : World) (a b : Int) : (binOp .neq 113 (.agg #[.int .i64 a, .int .i64 b]) (.agg #[.int .i64 a, .int .i64 b])).run Tryz.prog w = .ok (.bool false) w := by
  rw [run_neq_struct, run_eq_note]; rfl

set_option maxRecDepth 100000 in
set_option maxHeartbeats 2000000 in
theorem same_any (c : Cells) (A D E A' D' E' : Option Addr) (n1 k1 n2 k2 n3 k3 n1' k1' n2' k2' n3' k3' : Nat) (w : World) (h1 : n1 = c.V.length) (h2 : n2 = c.N.length) (h3 : n3 = c.M.length) (h1' : n1' = c.V.length) (h2' : n2' = c.N.length) (h3' : n3' = c.M.length) (h : Rd w c A k1 D k2 E k3) (h' : Rd w c A' k1' D' k2' E' k3') (hf : Few c 1000000) :
    Calls Tryz.prog 49 #[.agg #[.slice A n1 k1, .slice D n2 k2, .slice E n3 k3], .agg #[.slice A' n1' k1', .slice D' n2' k2', .slice E' n3' k3']] w fun e w' => e = .returned (.bool true) ∧ Q w w' := by
  subst h1 h2 h3 h1' h2' h3'
  obtain ⟨fv, fn, fm⟩ := hf
  have qa := (Q.refl w).alloc (Obj.cells #[Value.slice A c.V.length k1, Value.slice D c.N.length k2, Value.slice E c.M.length k3] 29)
  have q0 := qa.alloc (Obj.cells #[Value.slice A' c.V.length k1', Value.slice D' c.N.length k2', Value.slice E' c.M.length k3'] 29)
  have HB := Lib.hid ((Box3.new w (Value.slice A c.V.length k1) (Value.slice D c.N.length k2) (Value.slice E c.M.length k3) 29).q ((Q.refl _).alloc (Obj.cells #[Value.slice A' c.V.length k1', Value.slice D' c.N.length k2', Value.slice E' c.M.length k3'] 29)))
  have X := Box3.new (w.alloc (Obj.cells #[Value.slice A c.V.length k1, Value.slice D c.N.length k2, Value.slice E c.M.length k3] 29)) (Value.slice A' c.V.length k1') (Value.slice D' c.N.length k2') (Value.slice E' c.M.length k3') 29
  rw [World.size_alloc] at X
  have HB' := Lib.hid X
  have HR := Lib.hid (h.q q0)
  have HR' := Lib.hid (h'.q q0)
  have hne : ((c.N.length : Int) != (c.N.length : Int)) = false := by simp
  clear h h' X qa
  go_enter Tryz.func49, Tryz.ntmps49
  go_wp2_with fail
  generalize (w.alloc (Obj.cells #[Value.slice A c.V.length k1, Value.slice D c.N.length k2, Value.slice E c.M.length k3] 29)).alloc (Obj.cells #[Value.slice A' c.V.length k1', Value.slice D' c.N.length k2', Value.slice E' c.M.length k3'] 29) = W0 at *
  go_loopw [5] (fun i wr => ∃ k : Nat, k ≤ c.N.length ∧ i = .int .i64 k ∧ Hid (∃ d, wr = W0.drewN d)) (fun i _ => c.N.length - (intOf i).toNat)
  case atStart => exact ⟨0, Nat.zero_le _, rfl, Lib.hid ⟨0, rfl⟩⟩
  case round =>
    obtain ⟨k, hk, rfl, HD⟩ := hrel
    have qr := Lib.hid (q_drewN W0 HD.out)
    have b0 := (HB.out.q qr.out).c0
    have b1 := (HB.out.q qr.out).c1
    have b2 := (HB.out.q qr.out).c2
    have b0' := (HB'.out.q qr.out).c0
    have b1' := (HB'.out.q qr.out).c1
    have b2' := (HB'.out.q qr.out).c2
    by_cases hlt : k < c.N.length
    · obtain ⟨ad, e, hb, c0, c1⟩ := (HR.out.n.q qr.out).pair_at hlt
      obtain ⟨ad', e', hb', c0', c1'⟩ := (HR'.out.n.q qr.out).pair_at hlt
      have j0 : (0 : Int) ≤ (k : Int) := Int.natCast_nonneg _
      have j1 : (k : Int) < (c.N.length : Int) := by omega
      have hnq := fun u => run_neq_note u c.N[k].1 c.N[k].2
      rw [e] at b1
      rw [e'] at b1'
      clear e e'
      go_wp2_with fail
      go_quiet (fail)
      go_wp2_with fail
      go_roundw
      case rel => exact ⟨k + 1, by omega, by go_num, Lib.hid (by obtain ⟨d, rfl⟩ := HD.out; exact ⟨_, drewN_add _ _ _⟩)⟩
      case measure => simp [intOf]; omega
    · go_wp2_with fail
      refine (ints_same _ _ _ _ _ _ c.V _ rfl rfl (HR.out.v.q qr.out) (HR'.out.v.q qr.out) fv).mono ?_
      rintro e w1 ⟨rfl, hd1⟩
      have q1 := Lib.hid (q_drewN _ hd1)
      clear b0 b1 b0' b1' hd1
      have b2 := (HB.out.q (qr.out.trans q1.out)).c2
      have b2' := (HB'.out.q (qr.out.trans q1.out)).c2
      go_wp2_with fail
      refine (ints_same _ _ _ _ _ _ c.M _ rfl rfl (HR.out.m.q (qr.out.trans q1.out)) (HR'.out.m.q (qr.out.trans q1.out)) fm).mono ?_
      rintro e w2 ⟨rfl, hd2⟩
      have q2 := Lib.hid (q_drewN _ hd2)
      clear hd2
      go_wp2_with fail
      go_ret
      exact ⟨rfl, q0.trans ((qr.out.trans q1.out).trans q2.out)⟩
end Go.Proofs.YtjmopbimleoidaaGreat.Tr

namespace Go.Proofs.YtjmopbimleoidaaGreat.Tr
open Go.RowKit Kit

def OutPostE (c : Cells) (er : Int) (w : World) (e : Ending) (w' : World) : Prop :=
  ∃ g1 k1 g2 k2 g3 k3, e = .returned (.tuple #[.agg #[.slice (some ⟨g1, 0, none⟩) c.V.length k1, .slice (some ⟨g2, 0, none⟩) c.N.length k2, .slice (some ⟨g3, 0, none⟩) c.M.length k3], .int .i64 er]) ∧ Out w w' c g1 k1 g2 k2 g3 k3

/-- the boxes at a call's start: what came in, and the result's cells -/
theorem boxes (w : World) (a b c : Value) (t : TypeId) : ∃ W0, W0 = (w.alloc (Obj.cells #[a, b, c] t)).alloc (Obj.cells #[Value.slice none 0 0, Value.slice none 0 0, Value.slice none 0 0] t) ∧ Q w W0 ∧ W0.heap.size = w.heap.size + 2 ∧
    Box3 W0 w.heap.size a b c ∧ Box3 W0 (w.heap.size + 1) (Value.slice none 0 0) (Value.slice none 0 0) (Value.slice none 0 0) := by
  refine ⟨_, rfl, ((Q.refl w).alloc _).alloc _, by simp, (Box3.new w a b c t).q ((Q.refl _).alloc _), ?_⟩
  have X := Box3.new (w.alloc (Obj.cells #[a, b, c] t)) (Value.slice none 0 0) (Value.slice none 0 0) (Value.slice none 0 0) t
  rwa [World.size_alloc] at X

theorem src1 (w : World) (v : Value) (t : TypeId) : ∀ j u, [v][j]? = some u → (w.alloc (.cells #[v] t)).cell? ((⟨w.heap.size, 0, none⟩ : Addr).add j) = some u := by
  intro j u hu
  rw [add_zero_head, cell_of_row _ _ _ _ _ _ (heap_alloc_new w _)]
  simpa using hu

end Go.Proofs.YtjmopbimleoidaaGreat.Tr

namespace Go.Proofs.YtjmopbimleoidaaGreat.Tr
open Go.RowKit Kit

theorem Rds.int_some {w : World} {B : Nat} {ad : Addr} {l : List Int} (h : Rds w B (some ad) (cellsI l)) {k : Nat} (hk : k < l.length) : w.cell? (ad.add k) = some (.int .i64 l[k]) := by
  obtain ⟨ad', e, _, hc⟩ := h.int_at hk
  injection e with e
  subst e
  exact hc
/-- in the midst of a call: what came in, the result's cells, and the copy's box -/
structure St (w W : World) (B : Nat) (a b d x y z : Value) : Prop where
  ib : Box3 W w.heap.size a b d
  rb : Box3 W (w.heap.size + 1) (.slice none 0 0) (.slice none 0 0) (.slice none 0 0)
  tb : Box3 W B x y z
  hB : w.heap.size + 1 < B
  q : Q w W
theorem St.grown {w W W' : World} {B g : Nat} {a b d x y z : Value} (h : St w W B a b d x y z) (hg : W.grownBy W' (some g)) (h1 : w.heap.size + 1 < g) (h2 : g ≠ B) : St w W' B a b d x y z :=
  ⟨h.ib.grown hg (by omega), h.rb.grown hg (by omega), h.tb.grown hg h2, h.hB, grown_q hg h.q (by omega)⟩
theorem St.more {w W W' : World} {B : Nat} {a b d x y z : Value} (h : St w W B a b d x y z) (q : Q W W') : St w W' B a b d x y z := ⟨h.ib.q q, h.rb.q q, h.tb.q q, h.hB, h.q.trans q⟩
theorem St.set0 {w W : World} {B : Nat} {a b d x y z : Value} (h : St w W B a b d x y z) (v : Value) : St w (W.setCell ⟨B, 0, none⟩ v) B a b d v y z :=
  ⟨h.ib.far (by have := h.hB; omega) _, h.rb.far (by have := h.hB; omega) _, h.tb.set0 v, h.hB, grown_q (setCell_grown W B 0 v) h.q (by have := h.hB; omega)⟩
theorem St.set1 {w W : World} {B : Nat} {a b d x y z : Value} (h : St w W B a b d x y z) (v : Value) : St w (W.setCell ⟨B, 1, none⟩ v) B a b d x v z :=
  ⟨h.ib.far (by have := h.hB; omega) _, h.rb.far (by have := h.hB; omega) _, h.tb.set1 v, h.hB, grown_q (setCell_grown W B 1 v) h.q (by have := h.hB; omega)⟩
theorem St.set2 {w W : World} {B : Nat} {a b d x y z : Value} (h : St w W B a b d x y z) (v : Value) : St w (W.setCell ⟨B, 2, none⟩ v) B a b d x y v :=
  ⟨h.ib.far (by have := h.hB; omega) _, h.rb.far (by have := h.hB; omega) _, h.tb.set2 v, h.hB, grown_q (setCell_grown W B 2 v) h.q (by have := h.hB; omega)⟩

/-- the three rows of the copy -/
structure Own3 (w W : World) (B : Nat) (c : Cells) (g1 k1 g2 k2 g3 k3 : Nat) : Prop where
  v : W.ownsRow (w.heap.size + 2) 3 1 (.slice (some ⟨g1, 0, none⟩) c.V.length k1) c.V.length (cellsI c.V)
  n : W.ownsRow (w.heap.size + 2) 113 2 (.slice (some ⟨g2, 0, none⟩) c.N.length k2) c.N.length (cellsP c.N)
  m : W.ownsRow (w.heap.size + 2) 3 1 (.slice (some ⟨g3, 0, none⟩) c.M.length k3) c.M.length (cellsI c.M)
  lv : c.V.length ≤ k1
  ln : c.N.length ≤ k2
  lm : c.M.length ≤ k3
  d12 : g1 < g2
  d23 : g2 < g3
  d3B : g3 < B
theorem Own3.lo {w W : World} {B : Nat} {c : Cells} {g1 k1 g2 k2 g3 k3 : Nat} (h : Own3 w W B c g1 k1 g2 k2 g3 k3) : w.heap.size + 1 < g1 := (h.v.lt g1 rfl).1
theorem Own3.far {w W W' : World} {B g : Nat} {c : Cells} {g1 k1 g2 k2 g3 k3 : Nat} (h : Own3 w W B c g1 k1 g2 k2 g3 k3) (hg : W.grownBy W' (some g)) (e1 : g ≠ g1) (e2 : g ≠ g2) (e3 : g ≠ g3) : Own3 w W' B c g1 k1 g2 k2 g3 k3 :=
  ⟨row_far h.v hg e1, row_far h.n hg e2, row_far h.m hg e3, h.lv, h.ln, h.lm, h.d12, h.d23, h.d3B⟩
theorem Own3.more {w W W' : World} {B : Nat} {c : Cells} {g1 k1 g2 k2 g3 k3 : Nat} (h : Own3 w W B c g1 k1 g2 k2 g3 k3) (q : Q W W') : Own3 w W' B c g1 k1 g2 k2 g3 k3 :=
  ⟨row_kept h.v q (Nat.le_refl _), row_kept h.n q (Nat.le_refl _), row_kept h.m q (Nat.le_refl _), h.lv, h.ln, h.lm, h.d12, h.d23, h.d3B⟩
theorem Own3.out {w W : World} {B : Nat} {c : Cells} {g1 k1 g2 k2 g3 k3 : Nat} (h : Own3 w W B c g1 k1 g2 k2 g3 k3) (q : Q w W) : Out w W c g1 k1 g2 k2 g3 k3 := by
  have := h.d12
  have := h.d23
  have := h.lo
  exact ⟨.of_row h.v, .of_row h.n, .of_row h.m, h.lv, h.ln, h.lm, by omega, by omega, by omega, by omega, by omega, by omega, q⟩
/-- behind the copy, in its box -/
theorem st_start {w W0 w1 : World} {c : Cells} {g1 g2 g3 : Nat} {a b d : Value} (q0 : Q w W0) (hz : W0.heap.size = w.heap.size + 2) (hB : Box3 W0 w.heap.size a b d) (hX : Box3 W0 (w.heap.size + 1) (.slice none 0 0) (.slice none 0 0) (.slice none 0 0)) (hC : Cop W0 w1 c g1 g2 g3) (x y z : Value) (t : TypeId) :
    St w (w1.alloc (.cells #[x, y, z] t)) w1.heap.size a b d x y z ∧ Own3 w (w1.alloc (.cells #[x, y, z] t)) w1.heap.size c g1 (c.V.length + 1) g2 (c.N.length + 1) g3 (c.M.length + 1) := by
  have q1 := hC.q.trans ((Q.refl w1).alloc (.cells #[x, y, z] t))
  have hs := hC.q.size
  refine ⟨⟨hB.q q1, hX.q q1, Box3.new w1 x y z t, by omega, q0.trans q1⟩, ⟨row_kept hC.v ((Q.refl w1).alloc _) (by omega), row_kept hC.n ((Q.refl w1).alloc _) (by omega), row_kept hC.m ((Q.refl w1).alloc _) (by omega), Nat.le_succ _, Nat.le_succ _, Nat.le_succ _, hC.d12, hC.d23, (hC.m.lt g3 rfl).2⟩⟩
/-- the answer: what stands in the result's cells -/
theorem out_end {w W : World} {c : Cells} {g1 k1 g2 k2 g3 k3 : Nat} (h : Out w W c g1 k1 g2 k2 g3 k3) (h1 : w.heap.size + 1 < g1) (h2 : w.heap.size + 1 < g2) (h3 : w.heap.size + 1 < g3) (x y z : Value) :
    Out w (((W.setCell ⟨w.heap.size + 1, 0, none⟩ x).setCell ⟨w.heap.size + 1, 1, none⟩ y).setCell ⟨w.heap.size + 1, 2, none⟩ z) c g1 k1 g2 k2 g3 k3 :=
  h.far (set3_grown W (w.heap.size + 1) x y z) (by omega) (by omega) (by omega) (by omega)

theorem src2 (w : World) (v u : Value) (t : TypeId) : ∀ j x, [v, u][j]? = some x → (w.alloc (.cells #[v, u] t)).cell? ((⟨w.heap.size, 0, none⟩ : Addr).add j) = some x := by
  intro j x hx
  rw [add_zero_head, cell_of_row _ _ _ _ _ _ (heap_alloc_new w _)]
  simpa using hx
theorem step_append_fits {P : Program} {w : World} {ops : Array Oper} {o : Oper} {a : Act} {K : Act → World → Prop} {R : Exit → Act → World → Prop} {E : Prop} (hgd : o.guard = none) (s x : Operand) (t : TypeId)
    (ho : o.op = .call { callee := .builtin .append, args := #[s, x], argTypes := #[t, t] })
    (base : Nat) (e : TypeId) (i : TypeInfo) (size : Nat) (ht : P.underlying t = some (.slice e)) (hi : P.info? e = some i) (hsize : i.size = size)
    (g n cap : Nat) (xs : List Value) (hs : a.eval s = .slice (some ⟨g, 0, none⟩) n cap) (hown : w.ownsRow base e size (.slice (some ⟨g, 0, none⟩) n cap) n xs)
    (ad : Addr) (m c : Nat) (news : List Value) (hx : a.eval x = .slice (some ad) m c) (hl : news.length = m * size) (hnews : ∀ j u, news[j]? = some u → w.cell? (ad.add j) = some u) (h1 : ∀ u ∈ news, u.oneCell' = true)
    (hroom : n + m ≤ cap)
    (h : ∀ w', w'.ownsRow base e size (.slice (some ⟨g, 0, none⟩) (n + m) cap) (n + m) (xs ++ news) → w.grownBy w' (some g) → K (a.put o.dst (.slice (some ⟨g, 0, none⟩) (n + m) cap)) w') :
    if Region.wanted o (yielded ops a.tmps) = true then Oper.wp P o a w K R else E := by
  have hw : Region.wanted o (yielded ops a.tmps) = true := by simp [Region.wanted, hgd]
  rw [if_pos hw]
  obtain ⟨w', hrun, h2, h3⟩ := run_append_fits (P := P) w base t o.type e i size ht hi hsize g n cap xs hown ad m c news hl hnews h1 hroom
  unfold Oper.wp execOp
  simp only [ho, resolve, invoke, builtin, Sem.run_bind, Sem.run_pure, Result.andThen_ok, List.map_toArray, List.map_cons, List.map_nil, hs, hx, hrun]
  exact h w' h2 h3
end Go.Proofs.YtjmopbimleoidaaGreat.Tr

namespace Go.Proofs.YtjmopbimleoidaaGreat.Tr
open Go.RowKit Kit

def setC (c : Cells) (at_ : Nat) (x : Int) : Cells := ⟨c.V.set at_ x, c.N ++ [((at_ : Int), c.V.getD at_ 0)], c.M⟩

set_option maxRecDepth 100000 in
set_option maxHeartbeats 2000000 in
theorem set_some (c : Cells) (a : Nat) (x : Int) (A D E : Option Addr) (n1 k1 n2 k2 n3 k3 : Nat) (w : World) (h1 : n1 = c.V.length) (h2 : n2 = c.N.length) (h3 : n3 = c.M.length) (h : Rd w c A k1 D k2 E k3) (hf : Few c 1000000) (ha : a < c.V.length) :
    Calls Tryz.prog 88 #[.agg #[.slice A n1 k1, .slice D n2 k2, .slice E n3 k3], .int .i64 (a : Int), .int .i64 x] w (OutPostE (setC c a x) 0 w) := by
  subst h1 h2 h3
  obtain ⟨W0, hW0, q0, hz0, hB, hX⟩ := boxes w (Value.slice A c.V.length k1) (Value.slice D c.N.length k2) (Value.slice E c.M.length k3) 29
  have HB := Lib.hid hB
  have HX := Lib.hid hX
  have HR := Lib.hid (h.q q0)
  have HZ := Lib.hid hz0
  have HW := Lib.hid hW0
  have Hf := Lib.hid hf
  obtain ⟨fv, fn, fm⟩ := hf
  obtain ⟨j0, hi, hz0', hz1, hz2⟩ := info_parts intInfo
  have Hi := Lib.hid hi
  have Hz1 := Lib.hid hz1
  clear hi hz0' hz1 hz2
  obtain ⟨j1, hi, hz0', hz1, hz2⟩ := info_parts noteInfo
  have Hi2 := Lib.hid hi
  have Hz2 := Lib.hid hz1
  clear hi hz0' hz1 hz2
  have hd : Hid ((decide (0 ≤ (a : Int)) && decide ((a : Int) < (c.V.length : Int))) = true) := by
    unfold Hid
    rw [decide_eq_true (show (0 : Int) ≤ (a : Int) by omega), decide_eq_true (show (a : Int) < (c.V.length : Int) by omega)]; rfl
  have Hga : Hid (c.V.getD a 0 = c.V[a]) := by unfold Hid; simp [ha]
  obtain ⟨ad, rfl, _, _⟩ := h.v.int_at ha
  clear h hB hX hz0 hW0
  go_enter Tryz.func88, Tryz.ntmps88
  go_upto_region 1 with fail
  rw [← HW.out]
  have c0 := HB.out.c0
  have c1 := HB.out.c1
  have c2 := HB.out.c2
  clear HW
  go_upto_region 2 with (go_at_call 121; refine (copyOf_any c _ _ _ _ _ _ _ _ _ _ rfl rfl rfl HR.out Hf.out).mono ?_; rintro e w1 ⟨g1, g2, g3, rfl, hC⟩; have HC := Lib.hid hC; clear hC)
  clear c0 c1 c2
  obtain ⟨hS, hO⟩ := st_start q0 HZ.out HB.out HX.out HC.out (.slice (some ⟨g1, 0, none⟩) c.V.length (c.V.length + 1)) (.slice (some ⟨g2, 0, none⟩) c.N.length (c.N.length + 1)) (.slice (some ⟨g3, 0, none⟩) c.M.length (c.M.length + 1)) 29
  have HRr := Lib.hid (((HR.out.q HC.out.q).q ((Q.refl w1).alloc (.cells #[(.slice (some ⟨g1, 0, none⟩) c.V.length (c.V.length + 1)), (.slice (some ⟨g2, 0, none⟩) c.N.length (c.N.length + 1)), (.slice (some ⟨g3, 0, none⟩) c.M.length (c.M.length + 1))] 29))))
  generalize w1.alloc (.cells #[(.slice (some ⟨g1, 0, none⟩) c.V.length (c.V.length + 1)), (.slice (some ⟨g2, 0, none⟩) c.N.length (c.N.length + 1)), (.slice (some ⟨g3, 0, none⟩) c.M.length (c.M.length + 1))] 29) = W1 at *
  generalize w1.heap.size = B at *
  have HO := Lib.hid hO
  have HS := Lib.hid hS
  have i0 := hS.ib.c0
  have i1 := hS.ib.c1
  have i2 := hS.ib.c2
  clear hO hS
  have t0 := HS.out.tb.c0
  have tf0 := HS.out.tb.f0
  have t1 := HS.out.tb.c1
  have tf1 := HS.out.tb.f1
  have t2 := HS.out.tb.c2
  have tf2 := HS.out.tb.f2
  have l1 := HO.out.lo
  have l2 := HO.out.d12
  have l3 := HO.out.d23
  have l4 := HO.out.d3B
  have ca := HRr.out.v.int_some ha
  go_wp2_with (refine (place_any _ _ _).mono ?_; rintro e w2 ⟨rfl, rfl⟩; rw [hd.out])
  have qa := (Q.refl W1).alloc (.cells #[.int .i64 (a : Int), .int .i64 c.V[a]] 113)
  have HSa := Lib.hid (HS.out.more qa)
  have HOa := Lib.hid (HO.out.more qa)
  have Hs := Lib.hid (src2 W1 (.int .i64 (a : Int)) (.int .i64 c.V[a]) 113)
  clear qa
  have hBW := HS.out.tb.lt
  have hwW := HS.out.ib.lt
  go_region_law (refine step_append_fits rfl (.tmp 19) (.tmp 27) _ rfl (w.heap.size + 2) 113 j1 2 Tryz.underlying27 Hi2.out Hz2.out g2 c.N.length (c.N.length + 1) (cellsP c.N) rfl HOa.out.n ⟨W1.heap.size, 0, none⟩ 1 1 [.int .i64 (a : Int), .int .i64 c.V[a]] rfl rfl Hs.out (by simp [Value.oneCell']) (by omega) ?_; intro w2 own2 hgr0; have hgr : World.grownBy (W1.alloc (.cells #[.int .i64 (a : Int), .int .i64 c.V[a]] 113)) w2 (some g2) := ⟨hgr0.os, hgr0.tape, hgr0.output, hgr0.size, hgr0.block⟩; clear hgr0; have hS2 := HSa.out.grown hgr (by omega) (by omega); have HG2 := Lib.hid hgr; have Own2 := Lib.hid own2; have HS2 := Lib.hid hS2; have y0 := hS2.tb.c0; have y1 := hS2.tb.c1; have y2 := hS2.tb.c2; have yf := hS2.tb.f1; clear hS2 own2 hgr)
  all_goals
    clear y0 y1 y2 yf t0 t1 t2 tf0 tf1 tf2
    have HS3 := Lib.hid (HS2.out.set1 (.slice (some ⟨g2, 0, none⟩) (c.N.length + 1) (c.N.length + 1)))
    have HV3 := Lib.hid (row_far (row_far HOa.out.v HG2.out (by omega)) (setCell_grown w2 B 1 (.slice (some ⟨g2, 0, none⟩) (c.N.length + 1) (c.N.length + 1))) (by omega))
    have HM3 := Lib.hid (row_far (row_far HOa.out.m HG2.out (by omega)) (setCell_grown w2 B 1 (.slice (some ⟨g2, 0, none⟩) (c.N.length + 1) (c.N.length + 1))) (by omega))
    have HN3 := Lib.hid (row_far Own2.out (setCell_grown w2 B 1 (.slice (some ⟨g2, 0, none⟩) (c.N.length + 1) (c.N.length + 1))) (by omega))
    clear HS2 HG2 Own2
    generalize w2.setCell ⟨B, 1, none⟩ (.slice (some ⟨g2, 0, none⟩) (c.N.length + 1) (c.N.length + 1)) = W3 at *
    have HC3 := (OwnC.of_row HV3.out)
    have oc := (HC3.2 a _ (cellsI_at ha)).1
    have of := (HC3.2 a _ (cellsI_at ha)).2
    have HO4 : Hid (OwnC (W3.setCell ⟨g1, a, none⟩ (.int .i64 x)) g1 (cellsI (c.V.set a x))) := by have := HC3.set (s := a) (by rw [cellsI_len]; exact ha) (.int .i64 x); rw [← cellsI_set] at this; exact this
    clear HC3
    have HS4 := Lib.hid (HS3.out.grown (setCell_grown W3 g1 a (.int .i64 x)) (by omega) (by omega))
    have HN4 := Lib.hid ((OwnC.of_row HN3.out).far (b := g1) (i := a) (by omega) (.int .i64 x))
    have HM4 := Lib.hid ((OwnC.of_row HM3.out).far (b := g1) (i := a) (by omega) (.int .i64 x))
    have t0 := HS3.out.tb.c0
    have tf0 := HS3.out.tb.f0
    have t1 := HS3.out.tb.c1
    have tf1 := HS3.out.tb.f1
    have t2 := HS3.out.tb.c2
    have tf2 := HS3.out.tb.f2
    have y0 := HS4.out.tb.c0
    have yg0 := HS4.out.tb.f0
    have y1 := HS4.out.tb.c1
    have yg1 := HS4.out.tb.f1
    have y2 := HS4.out.tb.c2
    have yg2 := HS4.out.tb.f2
    have r0 := HS4.out.rb.c0
    have r1 := HS4.out.rb.c1
    have r2 := HS4.out.rb.c2
    have f0 := HS4.out.rb.f0
    have f1 := HS4.out.rb.f1
    have f2 := HS4.out.rb.f2
    have bz := HS4.out.rb.all (.slice (some ⟨g1, 0, none⟩) c.V.length (c.V.length + 1)) (.slice (some ⟨g2, 0, none⟩) (c.N.length + 1) (c.N.length + 1)) (.slice (some ⟨g3, 0, none⟩) c.M.length (c.M.length + 1))
    have v0 := bz.c0
    have v1 := bz.c1
    have v2 := bz.c2
    clear bz
    go_wp2_with fail
    have O4 : Out w (W3.setCell ⟨g1, a, none⟩ (.int .i64 x)) (setC c a x) g1 (c.V.length + 1) g2 (c.N.length + 1) g3 (c.M.length + 1) :=
      ⟨HO4.out, by have := HN4.out; rwa [← show cellsP (setC c a x).N = cellsP c.N ++ [Value.int .i64 (a : Int), Value.int .i64 c.V[a]] by show cellsP (c.N ++ [((a : Int), c.V.getD a 0)]) = _; rw [cellsP_append, Hga.out]; rfl] at this, HM4.out, by simp [setC], by simp [setC], Nat.le_succ _, by omega, by omega, by omega, by omega, by omega, by omega, HS4.out.q⟩
    refine bodyPost_ret (v := .tuple #[.agg #[.slice (some ⟨g1, 0, none⟩) c.V.length (c.V.length + 1), .slice (some ⟨g2, 0, none⟩) (c.N.length + 1) (c.N.length + 1), .slice (some ⟨g3, 0, none⟩) c.M.length (c.M.length + 1)], .int .i64 0]) (by simp [results, Tryz.f88, go_sem, v0, v1, v2]) rfl ⟨g1, c.V.length + 1, g2, c.N.length + 1, g3, c.M.length + 1, by simp [setC], ?_⟩
    exact out_end O4 (by omega) (by omega) (by omega) _ _ _
end Go.Proofs.YtjmopbimleoidaaGreat.Tr

namespace Go.Proofs.YtjmopbimleoidaaGreat.Tr
open Go.RowKit Kit

end Go.Proofs.YtjmopbimleoidaaGreat.Tr

namespace Go.Proofs.YtjmopbimleoidaaGreat.Tr
open Go.RowKit Kit

end Go.Proofs.YtjmopbimleoidaaGreat.Tr

namespace Go.Proofs.YtjmopbimleoidaaGreat.Tr
open Go.RowKit Kit

end Go.Proofs.YtjmopbimleoidaaGreat.Tr

namespace Go.Proofs.YtjmopbimleoidaaGreat.Tr
open Go.RowKit Kit

end Go.Proofs.YtjmopbimleoidaaGreat.Tr

namespace Go.Proofs.YtjmopbimleoidaaGreat.Tr
open Go.RowKit Kit

theorem cntR_at (N : List Note) (k : Nat) (h : k < N.length) (m : Nat) : cntR (N.take (k + 1)).reverse m = if ok1 N[k].1 m then cntR (N.take k).reverse (cnt1 N[k].1 m).toNat else none := by rw [take_rev N k h]; rfl
theorem cnt1_nat {a : Int} {m : Nat} (h : ok1 a m = true) : 0 ≤ cnt1 a m ∧ cnt1 a m ≤ m := by
  unfold ok1 at h
  unfold cnt1
  by_cases e : a = -1
  · rw [if_pos e] at h ⊢
    have := of_decide_eq_true h
    omega
  · rw [if_neg e]; omega

set_option maxRecDepth 100000 in
set_option maxHeartbeats 1000000 in
theorem takeI_any (ns : List Note) (M : Nat) (A : Option Addr) (n c : Nat) (w : World) (hn : n = ns.length) (hr : Rds w w.heap.size A (cellsP ns)) (hl : M ≤ 1000000) (hnl : ns.length ≤ 1000000) (h : (cntR ns.reverse M).isSome = true) :
    Calls Tryz.prog 146 #[.slice A n c, .int .i64 (M : Int), .func (.func 147) #[] #[]] w fun e w' => (∃ m : Int, e = .returned (.tuple #[.int .i64 m, .bool true])) ∧ Q w w' := by
  subst hn
  have HR := Lib.hid hr
  have Hh : Hid ((cntR (ns.take ns.length).reverse M).isSome = true) := by rw [List.take_length]; exact Lib.hid h
  clear hr h
  go_enter Tryz.func146, Tryz.ntmps146
  go_wp2_with fail
  go_loopw [1, 8, 9] (fun now ok i wr => ∃ (v : Nat) (k : Nat) (j : Int), k ≤ ns.length ∧ i = .int .i64 j ∧ Hid (j = (k : Int) - 1) ∧ ok = .bool true ∧ now = .int .i64 (v : Int) ∧ v ≤ 1000000 ∧ Hid (Q w wr) ∧ Hid ((cntR (ns.take k).reverse v).isSome = true)) (fun _ _ i _ => (intOf i + 1).toNat)
  case atStart => exact ⟨M, ns.length, _, Nat.le_refl _, rfl, Lib.hid rfl, rfl, rfl, hl, Lib.hid (Q.refl w), Hh⟩
  case round =>
    clear Hh
    obtain ⟨v, k, j, hk, rfl, HJ, rfl, rfl, hvl, HG, HH⟩ := hrel
    rcases k with _ | k
    · obtain rfl : j = -1 := by have := HJ.out; simpa using this
      go_wp2_with fail
      go_ret2
      exact ⟨⟨_, rfl⟩, HG.out⟩
    · obtain rfl : j = (k : Int) := by have := HJ.out; omega
      have hkl : k < ns.length := by omega
      have HS := HH.out
      rw [cntR_at ns k hkl] at HS
      cases he : ok1 ns[k].1 v with
      | false => rw [he] at HS; cases HS
      | true =>
        rw [he] at HS
        have HS' : Hid ((cntR (ns.take k).reverse (cnt1 ns[k].1 v).toNat).isSome = true) := HS
        have He := Lib.hid he
        obtain ⟨h1, h2⟩ := cnt1_nat he
        obtain ⟨u, hu⟩ : ∃ u : Nat, cnt1 ns[k].1 v = u := ⟨_, (Int.toNat_of_nonneg h1).symm⟩
        have Hu := Lib.hid hu
        have hul : u ≤ 1000000 := by omega
        obtain ⟨ad, e, hb, c0, c1⟩ := (HR.out.q HG.out).pair_at hkl
        have HE := Lib.hid e
        clear HS he e hu h1 h2
        have hj0 : (0 : Int) ≤ (k : Int) := Int.natCast_nonneg _
        rw [HE.out]
        go_wp2_with fail
        refine (count_any ns[k] v _ hvl).mono ?_
        rintro e w1 ⟨rfl, q1⟩
        rw [He.out, Hu.out]
        go_wp2_with fail
        go_roundw
        case rel => exact ⟨u, k, _, by omega, rfl, Lib.hid (by omega), rfl, rfl, hul, Lib.hid (HG.out.trans q1), by have := HS'.out; rw [Hu.out] at this; exact Lib.hid this⟩
        case measure => simp [intOf]

set_option maxRecDepth 100000 in
set_option maxHeartbeats 1000000 in
theorem right_true (c : Cells) (A D E : Option Addr) (n1 k1 n2 k2 n3 k3 : Nat) (w : World) (h1 : n1 = c.V.length) (h2 : n2 = c.N.length) (h3 : n3 = c.M.length) (h : Rd w c A k1 D k2 E k3) (hf : Few c 1000000) (hR : rightB c = true) :
    Calls Tryz.prog 113 #[.agg #[.slice A n1 k1, .slice D n2 k2, .slice E n3 k3]] w fun e w' => e = .returned (.bool true) ∧ Q w w' := by
  subst h1 h2 h3
  obtain ⟨fv, fn, fm⟩ := hf
  unfold rightB at hR
  rw [Bool.and_eq_true] at hR
  obtain ⟨hM, hN⟩ := hR
  have HN : Hid ((cntR c.N.reverse c.V.length).isSome = true) := by
    unfold Hid
    rw [← backR_cnt]
    unfold backs at hN
    cases e : backR c.N.reverse c.V with
    | none => rw [e] at hN; cases hN
    | some _ => rfl
  have HM := Lib.hid hM
  have q0 := (Q.refl w).alloc (Obj.cells #[Value.slice A c.V.length k1, Value.slice D c.N.length k2, Value.slice E c.M.length k3] 29)
  have HB := Lib.hid (Box3.new w (Value.slice A c.V.length k1) (Value.slice D c.N.length k2) (Value.slice E c.M.length k3) 29)
  have HR := Lib.hid (h.q q0)
  clear h hM hN
  go_enter Tryz.func113, Tryz.ntmps113
  go_wp2_with fail
  generalize w.alloc (Obj.cells #[Value.slice A c.V.length k1, Value.slice D c.N.length k2, Value.slice E c.M.length k3] 29) = W0 at *
  have b0 := HB.out.c0
  have b1 := HB.out.c1
  go_loopw [3, 11] (fun least i wr => ∃ (k : Nat) (p : Int), k ≤ c.M.length ∧ i = .int .i64 k ∧ least = .int .i64 p ∧ Hid (mkB c.N.length p (c.M.drop k) = true) ∧ W0 = wr) (fun _ i _ => c.M.length - (intOf i).toNat)
  case atStart => exact ⟨0, 0, Nat.zero_le _, rfl, rfl, HM, rfl⟩
  case round =>
    clear HM
    obtain ⟨k, p, hk, rfl, rfl, HH, rfl⟩ := hrel
    by_cases hlt : k < c.M.length
    · have HS := HH.out
      rw [mkB_at _ _ _ k hlt] at HS
      simp only [Bool.and_eq_true, decide_eq_true_eq] at HS
      obtain ⟨⟨s1, s2⟩, s3⟩ := HS
      have d1 : decide (c.M[k] < p) = false := decide_eq_false (by omega)
      have d2 : decide ((c.N.length : Int) < c.M[k]) = false := decide_eq_false (by omega)
      have S3 := Lib.hid s3
      obtain ⟨ad, e, hb, c0⟩ := HR.out.m.int_at hlt
      have HE := Lib.hid e
      clear s1 s2 s3 e
      rw [HE.out]
      go_wp2_with fail
      go_roundw
      case rel => exact ⟨k + 1, _, by omega, by go_num, rfl, S3, trivial⟩
      case measure => simp [intOf]; omega
    · go_wp2_with fail
      refine (takeI_any c.N c.V.length D _ k2 _ rfl HR.out.n fv fn HN.out).mono ?_
      rintro e w1 ⟨⟨m, rfl⟩, q1⟩
      go_wp2_with fail
      go_ret
      exact ⟨rfl, q0.trans q1⟩
end Go.Proofs.YtjmopbimleoidaaGreat.Tr

namespace Go.Proofs.YtjmopbimleoidaaGreat.Tr
open Go.RowKit Kit

set_option maxRecDepth 100000 in
set_option maxHeartbeats 4000000 in
theorem refRight_any (c : Cells) (A D E : Option Addr) (n1 k1 n2 k2 n3 k3 : Nat) (w : World) (h1 : n1 = c.V.length) (h2 : n2 = c.N.length) (h3 : n3 = c.M.length) (h : Rd w c A k1 D k2 E k3) (hf : Few c 1000000) :
    Calls Tryz.prog 93 #[.agg #[.slice A n1 k1, .slice D n2 k2, .slice E n3 k3]] w fun e w' => e = .returned (.bool (rightB c)) ∧ Q w w' := by
  subst h1 h2 h3
  have Hf := Lib.hid hf
  obtain ⟨fv, fn, fm⟩ := hf
  have q0 := (Q.refl w).alloc (Obj.cells #[Value.slice A c.V.length k1, Value.slice D c.N.length k2, Value.slice E c.M.length k3] 29)
  have HB := Lib.hid (Box3.new w (Value.slice A c.V.length k1) (Value.slice D c.N.length k2) (Value.slice E c.M.length k3) 29)
  have HR := Lib.hid (h.q q0)
  clear h
  go_enter Tryz.func93, Tryz.ntmps93
  go_wp2_with fail
  generalize w.alloc (Obj.cells #[Value.slice A c.V.length k1, Value.slice D c.N.length k2, Value.slice E c.M.length k3] 29) = W0 at *
  go_loopw [3] (fun i wr => ∃ (k : Nat) (p : Int), k ≤ c.M.length ∧ i = .int .i64 k ∧ Hid (rightB c = (mkB c.N.length p (c.M.drop k) && (backs c.N c.V).isSome)) ∧ Hid (0 ≤ p ∧ (p = 0 ∧ k = 0 ∨ 0 < k ∧ c.M[k - 1]? = some p)) ∧ Hid (∃ d, wr = W0.drewN d)) (fun i _ => c.M.length - (intOf i).toNat)
  case atStart => exact ⟨0, 0, Nat.zero_le _, rfl, Lib.hid rfl, Lib.hid ⟨by omega, .inl ⟨rfl, rfl⟩⟩, Lib.hid ⟨0, rfl⟩⟩
  case round =>
    obtain ⟨k, p, hk, rfl, HH, HP, HD⟩ := hrel
    have qr := Lib.hid (q_drewN W0 HD.out)
    have b1 := (HB.out.q qr.out).c1
    have b2 := (HB.out.q qr.out).c2
    by_cases hlt : k < c.M.length
    · have HS := HH.out
      rw [mkB_at _ _ _ k hlt] at HS
      obtain ⟨ad, e, hb, c0⟩ := (HR.out.m.q qr.out).int_at hlt
      rw [e] at b2
      have HE := Lib.hid e
      clear e
      have j0 : (0 : Int) ≤ (k : Int) := Int.natCast_nonneg _
      have j1 : (k : Int) < (c.M.length : Int) := by omega
      obtain ⟨x, hx⟩ : ∃ x, x = c.M[k] := ⟨_, rfl⟩
      have HX := Lib.hid hx
      rw [← hx] at HS c0
      clear hx
      have stop : ∀ b : Bool, Hid (rightB c = b) → Hid (rightB c = b) := fun _ h => h
      by_cases x0 : x < 0
      · have HF : Hid (rightB c = false) := by
          rw [decide_eq_false (show ¬ p ≤ x by have := HP.out.1; omega)] at HS; exact Lib.hid HS
        have d1 : decide (x < 0) = true := decide_eq_true x0
        clear HS x0
        go_wp2_with fail
        go_quiet (fail)
        go_wp2_with fail
        go_ret
        exact ⟨by rw [HF.out]; rfl, q0.trans (q_drewN W0 (by obtain ⟨d, rfl⟩ := HD.out; exact ⟨_, drewN_add _ _ _⟩))⟩
      · have d1 : decide (x < 0) = false := decide_eq_false x0
        by_cases x1 : (c.N.length : Int) < x
        · have HF : Hid (rightB c = false) := by
            rw [decide_eq_false (show ¬ x ≤ (c.N.length : Int) by omega), Bool.and_false] at HS; exact Lib.hid HS
          have d2 : decide ((c.N.length : Int) < x) = true := decide_eq_true x1
          clear HS x0 x1
          go_wp2_with fail
          go_quiet (fail)
          go_wp2_with fail
          go_ret
          exact ⟨by rw [HF.out]; rfl, q0.trans (q_drewN W0 (by obtain ⟨d, rfl⟩ := HD.out; exact ⟨_, drewN_add _ _ _⟩))⟩
        · have d2 : decide ((c.N.length : Int) < x) = false := decide_eq_false x1
          rw [decide_eq_true (show x ≤ (c.N.length : Int) by omega), Bool.and_true] at HS
          rcases k with _ | k
          · have HF : Hid (rightB c = (mkB c.N.length x (c.M.drop (0 + 1)) && (backs c.N c.V).isSome)) := by
              rw [decide_eq_true (show p ≤ x by have := HP.out.2; omega), Bool.true_and] at HS; exact Lib.hid HS
            have HP' : Hid (0 ≤ x ∧ (x = 0 ∧ 0 + 1 = 0 ∨ 0 < 0 + 1 ∧ c.M[0 + 1 - 1]? = some x)) := ⟨by omega, .inr ⟨by omega, by rw [HX.out]; exact List.getElem?_eq_getElem hlt⟩⟩
            have c0' : wr.cell? ad = some (.int .i64 x) := by have := c0; simpa [Addr.add] using this
            have j1' : (0 : Int) < (c.M.length : Int) := by omega
            clear HS x0 x1 c0
            go_wp2_with fail
            go_quiet (fail)
            go_wp2_with fail
            go_roundw
            case rel => exact ⟨0 + 1, x, by omega, by go_num, HF, HP', Lib.hid (by obtain ⟨d, rfl⟩ := HD.out; exact ⟨_, drewN_add _ _ _⟩)⟩
            case measure => simp [intOf]; omega
          · have hp : c.M[k]? = some p := by
              rcases HP.out.2 with ⟨_, h⟩ | ⟨_, h⟩
              · omega
              · simpa using h
            have hk' : k < c.M.length := by omega
            have hpe : c.M[k] = p := by rw [List.getElem?_eq_getElem hk'] at hp; injection hp
            obtain ⟨ad', e', _, c1⟩ := (HR.out.m.q qr.out).int_at hk'
            have hadd : ad' = ad := by rw [HE.out] at e'; injection e' with e'; exact e'.symm
            rw [hadd, hpe] at c1
            clear hadd e' hp hpe hk'
            have c0' : wr.cell? ⟨ad.block, ad.off + (k + 1), none⟩ = some (.int .i64 x) := by have := c0; simpa [Addr.add] using this
            have j2 : ((k : Int) + 1 - 1) = (k : Int) := by omega
            have j3 : decide (0 < (k : Int) + 1) = true := decide_eq_true (by omega)
            have j5 : ((k : Int) + 1).toNat = k + 1 := by omega
            have j6 : (k : Int) + 1 < (c.M.length : Int) := by omega
            have j7 : (0 : Int) ≤ (k : Int) + 1 := by omega
            have j8 : (k : Int) < (c.M.length : Int) := by omega
            have j9 : IntKind.i64.wrap (k : Int) = (k : Int) := IntWalk.i64_in _ (by omega)
            have j10 : (0 : Int) ≤ (k : Int) := by omega
            have j4 : IntKind.i64.wrap ((k : Int) + 1 - 1) = (k : Int) := by rw [j2]; exact IntWalk.i64_in _ (by omega)
            by_cases x2 : x < p
            · have HF : Hid (rightB c = false) := by
                rw [decide_eq_false (show ¬ p ≤ x by omega)] at HS; exact Lib.hid HS
              have d3 : decide (x < p) = true := decide_eq_true x2
              clear HS x0 x1 x2
              go_wp2_with fail
              go_quiet (fail)
              go_wp2_with fail
              go_ret
              exact ⟨by rw [HF.out]; rfl, q0.trans (q_drewN W0 (by obtain ⟨d, rfl⟩ := HD.out; exact ⟨_, drewN_add _ _ _⟩))⟩
            · have HF : Hid (rightB c = (mkB c.N.length x (c.M.drop (k + 1 + 1)) && (backs c.N c.V).isSome)) := by
                rw [decide_eq_true (show p ≤ x by omega), Bool.true_and] at HS; exact Lib.hid HS
              have HP' : Hid (0 ≤ x ∧ (x = 0 ∧ k + 1 + 1 = 0 ∨ 0 < k + 1 + 1 ∧ c.M[k + 1 + 1 - 1]? = some x)) := ⟨by omega, .inr ⟨by omega, by rw [HX.out]; exact List.getElem?_eq_getElem hlt⟩⟩
              have d3 : decide (x < p) = false := decide_eq_false x2
              clear HS x0 x1 x2
              go_wp2_with fail
              go_quiet (fail)
              go_wp2_with fail
              go_roundw
              case rel => exact ⟨k + 1 + 1, x, by omega, by go_num, HF, HP', Lib.hid (by obtain ⟨d, rfl⟩ := HD.out; exact ⟨_, drewN_add _ _ _⟩)⟩
              case measure => simp [intOf]; omega
    · obtain rfl : k = c.M.length := by omega
      have HF : Hid (rightB c = (backs c.N c.V).isSome) := by have := HH.out; rw [mkB_end _ _ _ _ (Nat.le_refl _), Bool.true_and] at this; exact Lib.hid this
      have b0 := (HB.out.q qr.out).c0
      go_wp2_with fail
      refine (refCells_any c _ _ _ _ _ _ _ _ _ _ rfl rfl rfl (HR.out.q qr.out) Hf.out).mono ?_
      rintro e w1 ⟨v, rfl, q1⟩
      go_wp2_with fail
      go_ret
      exact ⟨by rw [HF.out]; rfl, q0.trans (qr.out.trans q1)⟩
end Go.Proofs.YtjmopbimleoidaaGreat.Tr

namespace Go.Proofs.YtjmopbimleoidaaGreat.Tr
open Go.RowKit Kit

def growC (c : Cells) (x : Int) : Cells := ⟨c.V ++ [x], c.N ++ [(-1, 0)], c.M⟩

end Go.Proofs.YtjmopbimleoidaaGreat.Tr

namespace Go.Proofs.YtjmopbimleoidaaGreat.Tr
open Go.ChangeShapes Go.WideShapes Go.RowKit Kit Go.Deep Go.Joins

theorem bytes_int : Tryz.prog.bytesOf 3 = 8 := by kernel_rfl
theorem bytes_note : Tryz.prog.bytesOf 113 = 16 := by kernel_rfl
theorem cells_int : Tryz.prog.cellsOf 3 = 1 := by kernel_rfl
section
variable {H : Type} {enc : TypeId × Value → H} {W : World} {base : Nat}
theorem open_ints_cells {fuel : Nat} {v : Value} {x : DataW H × List MemPlace} (h : DataW.trod enc Tryz.prog W 0 (fun _ => true) true fuel 24 [v] = some x) (hz : ∀ n ∈ x.1.weights Tryz.prog 24, n ≤ reachBytes) :
    ∃ A n c l, v = .slice A n c ∧ n = l.length ∧ n ≤ c ∧ Rds W W.heap.size A (cellsI l) ∧ l.length ≤ 1152921504606846976 := by
  rcases open_ints Tryz.underlying24 Tryz.underlying3 cells_int h with ⟨hcs, hx⟩ | ⟨a, len, cap, zs, hcs, _, hl, _, hlen, hx, hcell, _⟩
  · obtain rfl : v = .slice none 0 0 := by simpa using hcs
    exact ⟨none, 0, 0, [], rfl, rfl, Nat.le_refl _, Rds.nil _ _ _, by simp⟩
  · obtain rfl : v = .slice (some a) len cap := by simpa using hcs
    simp only [if_true] at hlen
    have hw : (((lits .i64 (zs.take len) : List (DataW H))).length + ((lits .i64 (zs.drop len) : List (DataW H))).length) * Tryz.prog.bytesOf 3 ≤ reachBytes := by
      refine hz _ ?_
      rw [hx]
      simp [DataW.weights, Tryz.underlying24]
    rw [bytes_int] at hw
    have hll : (zs.take len).length = len := by rw [List.length_take, hlen]; omega
    refine ⟨_, _, _, zs.take len, rfl, hll.symm, hl, fun h0 => ⟨a, rfl, ?_, fun i y hy => ?_⟩, ?_⟩
    · have := hcell 0 (by rw [cellsI_len] at h0; omega)
      have := World.block_lt_of_cell? W _ this
      rwa [add_block] at this
    · unfold cellsI at hy
      rw [List.getElem?_map, Option.map_eq_some_iff] at hy
      obtain ⟨z, hz', rfl⟩ := hy
      have hi : i < len := by have := (List.getElem?_eq_some_iff.1 hz').1; omega
      rw [List.getElem?_take, if_pos hi] at hz'
      rw [hcell i (by omega)]
      simp [hz']
    · simp [lits, reachBytes] at hw
      rw [hll]; omega
theorem open_notes_cells {fuel : Nat} {v : Value} {x : DataW H × List MemPlace} (h : DataW.trod enc Tryz.prog W 0 (fun _ => true) true fuel 27 [v] = some x) (hz : ∀ n ∈ x.1.weights Tryz.prog 27, n ≤ reachBytes) :
    ∃ A n c l, v = .slice A n c ∧ n = l.length ∧ n ≤ c ∧ Rds W W.heap.size A (cellsP l) ∧ l.length ≤ 1152921504606846976 := by
  rcases open_slice_pairs Tryz.underlying27 Tryz.underlying113 (by kernel_rfl) rfl rfl (by kernel_rfl) (by kernel_rfl) h with ⟨hcs, _⟩ | ⟨ad, len, cap, m, n, V0, V1, D0, D1, P0, P1, hcs, _, hl, hm, hmm, hx, hi⟩
  · obtain rfl : v = .slice none 0 0 := by simpa using hcs
    exact ⟨none, 0, 0, [], rfl, rfl, Nat.le_refl _, Rds.nil _ _ _, by simp⟩
  · obtain rfl : v = .slice (some ad) len cap := by simpa using hcs
    have hw : (((List.range len).map fun i => (.agg [D0 i, D1 i] : DataW H)).length + ((List.range (m - len)).map fun j => (.agg [D0 (len + j), D1 (len + j)] : DataW H)).length) * Tryz.prog.bytesOf 113 ≤ reachBytes := by
      refine hz _ ?_
      rw [hx]
      simp [DataW.weights, Tryz.underlying27]
    rw [bytes_note] at hw
    have hlm : len ≤ m := by rw [hmm]; split <;> omega
    have each : ∀ i, i < len → ∃ s : Note, W.cell? (ad.add (i * 2)) = some (.int .i64 s.1) ∧ W.cell? (ad.add (i * 2 + 1)) = some (.int .i64 s.2) := fun i hil => by
      obtain ⟨c0, c1, t0, t1⟩ := hi i (by omega)
      obtain ⟨s0, e0, _, _⟩ := DataW.trod_int Tryz.underlying3 t0
      obtain ⟨s1, e1, _, _⟩ := DataW.trod_int Tryz.underlying3 t1
      simp only [List.cons.injEq, and_true] at e0 e1
      exact ⟨(s0, s1), by rw [c0, e0], by rw [c1, e1]⟩
    obtain ⟨q, hq⟩ := choose_lt each
    have hll : ((List.range len).map q).length = len := by simp
    refine ⟨_, _, _, (List.range len).map q, rfl, hll.symm, hl, fun h0 => ⟨ad, rfl, ?_, fun j u hj => ?_⟩, ?_⟩
    · rw [cellsP_len, hll] at h0
      have := (hq 0 (by omega)).1
      have := World.block_lt_of_cell? W _ this
      rwa [add_block] at this
    · rcases Nat.mod_two_eq_zero_or_one j with hp | hp
      · obtain ⟨i, rfl⟩ : ∃ i, j = i * 2 := ⟨j / 2, by omega⟩
        rw [cellsP_even, Option.map_eq_some_iff] at hj
        obtain ⟨s, hs, rfl⟩ := hj
        have hil : i < len := by have := (List.getElem?_eq_some_iff.1 hs).1; rw [hll] at this; exact this
        have e : s = q i := by rw [List.getElem?_map, List.getElem?_range hil] at hs; simpa using hs.symm
        rw [e]
        exact (hq i hil).1
      · obtain ⟨i, rfl⟩ : ∃ i, j = i * 2 + 1 := ⟨j / 2, by omega⟩
        rw [cellsP_odd, Option.map_eq_some_iff] at hj
        obtain ⟨s, hs, rfl⟩ := hj
        have hil : i < len := by have := (List.getElem?_eq_some_iff.1 hs).1; rw [hll] at this; exact this
        have e : s = q i := by rw [List.getElem?_map, List.getElem?_range hil] at hs; simpa using hs.symm
        rw [e]
        exact (hq i hil).2
    · simp [reachBytes] at hw
      rw [hll]; omega
set_option maxRecDepth 100000 in
theorem open_cells3 {f0 f1 f2 : Nat} {v0 v1 v2 : Value} {y0 y1 y2 : DataW H × List MemPlace} (t0 : DataW.trod enc Tryz.prog W 0 (fun _ => true) true f0 24 [v0] = some y0) (t1 : DataW.trod enc Tryz.prog W 0 (fun _ => true) true f1 27 [v1] = some y1) (t2 : DataW.trod enc Tryz.prog W 0 (fun _ => true) true f2 24 [v2] = some y2)
    (hz : ∀ n ∈ DataW.weights Tryz.prog 29 (.agg [y0.1, y1.1, y2.1]), n ≤ reachBytes) :
    ∃ c A n1 k1 D n2 k2 E n3 k3, v0 = .slice A n1 k1 ∧ v1 = .slice D n2 k2 ∧ v2 = .slice E n3 k3 ∧ n1 = c.V.length ∧ n2 = c.N.length ∧ n3 = c.M.length ∧ Rd W c A k1 D k2 E k3 ∧ Few c 1152921504606846976 := by
  have hw : DataW.weights Tryz.prog 29 (.agg [y0.1, y1.1, y2.1]) = y0.1.weights Tryz.prog 24 ++ (y1.1.weights Tryz.prog 27 ++ (y2.1.weights Tryz.prog 24 ++ [])) := by
    simp [DataW.weights, Tryz.underlying29, DataW.weightsEach]
  rw [hw] at hz
  obtain ⟨A, n1, k1, V, e0, h1, g1, r1, l1⟩ := open_ints_cells t0 (fun n hn => hz n (by simp [hn]))
  obtain ⟨D, n2, k2, N, e1, h2, g2, r2, l2⟩ := open_notes_cells t1 (fun n hn => hz n (by simp [hn]))
  obtain ⟨E, n3, k3, M, e2, h3, g3, r3, l3⟩ := open_ints_cells t2 (fun n hn => hz n (by simp [hn]))
  exact ⟨⟨V, N, M⟩, A, n1, k1, D, n2, k2, E, n3, k3, e0, e1, e2, h1, h2, h3, ⟨r1, r2, r3, by show V.length ≤ _; omega, by show N.length ≤ _; omega, by show M.length ≤ _; omega⟩, l1, l2, l3⟩
end

theorem Rds.own {w : World} {B g : Nat} {l : List Int} (h : Rds w B (some ⟨g, 0, none⟩) (cellsI l)) {k : Nat} {x : Int} (hk : l[k]? = some x) : w.cell? ⟨g, k, none⟩ = some (.int .i64 x) := by
  have hl := (List.getElem?_eq_some_iff.1 hk).1
  obtain ⟨ad, e, _, hc⟩ := h (by rw [cellsI_len]; omega)
  injection e with e
  subst e
  have := hc k (.int .i64 x) (by unfold cellsI; rw [List.getElem?_map, hk]; rfl)
  rwa [add_zero_head] at this

theorem few_set {c : Cells} {m k : Nat} (a : Nat) (x : Int) (h : Few c m) (hm : m + 1 ≤ k) : Few (setC c a x) k := ⟨by have := h.1; simp [setC]; omega, by have := h.2.1; simp [setC]; omega, by have := h.2.2; show c.M.length ≤ _; omega⟩
theorem few_more {c : Cells} {m k : Nat} (h : Few c m) (hm : m ≤ k) : Few c k := ⟨Nat.le_trans h.1 hm, Nat.le_trans h.2.1 hm, Nat.le_trans h.2.2 hm⟩
end Go.Proofs.YtjmopbimleoidaaGreat.Tr

namespace Go.Proofs.YtjmopbimleoidaaGreat.Uf
open Go.RowKit Kit Tr

theorem placeU (a m : Int) (w : World) : Calls Tryz.prog 86 #[.int .i64 a, .int .i64 m] w fun e w' => e = .returned (.bool (decide (0 ≤ a) && decide (a < m))) ∧ w = w' := by
  by_cases h : 0 ≤ a
  · have hd : decide (0 ≤ a) = true := decide_eq_true h
    rw [hd]
    go_enter Tryz.func86, Tryz.ntmps86
    go_wp2_with fail
    go_ret
    exact ⟨rfl, rfl⟩
  · have hd : decide (0 ≤ a) = false := decide_eq_false h
    rw [hd]
    go_enter Tryz.func86, Tryz.ntmps86
    go_wp2_with fail
    go_ret
    exact ⟨rfl, rfl⟩

/-- the rank, in a box -/
theorem rank_any (R : List Int) (A : Option Addr) (c B : Nat) (n : Int) (w : World) (hb : w.cell? ⟨B, 0, none⟩ = some (.slice A R.length c)) (hr : Rds w w.heap.size A (cellsI R)) :
    Calls Tryz.prog 117 #[.int .i64 n, .pointer (some ⟨B, 0, none⟩)] w fun e w' => e = .returned (.int .i64 (rk R n)) ∧ w = w' := by
  by_cases h : 0 ≤ n ∧ n < R.length
  · obtain ⟨k, rfl⟩ := Int.eq_ofNat_of_zero_le h.1
    have hk : k < R.length := by omega
    have HR : Hid (rk R (k : Int) = R[k]) := by unfold Hid rk; rw [if_pos h]; simp [hk]
    obtain ⟨ad, e, _, c0⟩ := hr.int_at hk
    rw [e] at hb
    have hd : (decide (0 ≤ (k : Int)) && decide ((k : Int) < (R.length : Int))) = true := by rw [decide_eq_true h.1, decide_eq_true h.2]; rfl
    clear h e hr
    go_enter Tryz.func117, Tryz.ntmps117
    go_wp2_with (go_at_call 86; refine (placeU _ _ _).mono ?_; rintro e w2 ⟨rfl, rfl⟩; rw [hd])
    go_ret
    exact ⟨by rw [HR.out]; rfl, rfl⟩
  · have HR : Hid (rk R n = 0) := by unfold Hid rk; rw [if_neg h]
    have hd : (decide (0 ≤ n) && decide (n < (R.length : Int))) = false := by
      by_cases e : 0 ≤ n
      · rw [decide_eq_false (fun k => h ⟨e, k⟩), Bool.and_false]
      · rw [decide_eq_false e]; rfl
    clear h hr
    go_enter Tryz.func117, Tryz.ntmps117
    go_wp2_with (go_at_call 86; refine (placeU _ _ _).mono ?_; rintro e w2 ⟨rfl, rfl⟩; rw [hd])
    go_ret
    exact ⟨by rw [HR.out]; rfl, rfl⟩

set_option maxHeartbeats 1000000 in
/-- the order, over its rank -/
theorem ahead_any (R : List Int) (A : Option Addr) (c B F : Nat) (a b : Int) (w : World) (hf : w.cell? ⟨F, 0, none⟩ = some (.func (.func 117) #[] #[.pointer (some ⟨B, 0, none⟩)])) (hb : w.cell? ⟨B, 0, none⟩ = some (.slice A R.length c)) (hr : Rds w w.heap.size A (cellsI R)) :
    Calls Tryz.prog 118 #[.int .i64 a, .int .i64 b, .pointer (some ⟨F, 0, none⟩)] w fun e w' => e = .returned (.bool (lessB R a b)) ∧ ∃ d, w' = w.drewN d := by
  have C0 : Hid (∀ (x : Int) (n : Nat), Calls Tryz.prog 117 #[.int .i64 x, .pointer (some ⟨B, 0, none⟩)] (w.drewN n) fun e w' => e = .returned (.int .i64 (rk R x)) ∧ w' = w.drewN n) := fun x n =>
    (rank_any R A c B x (w.drewN n) hb hr).mono (by rintro e w' ⟨rfl, rfl⟩; exact ⟨rfl, rfl⟩)
  by_cases h : rk R a = rk R b
  · have HR : Hid (lessB R a b = decide (a < b)) := by unfold Hid lessB; rw [if_pos h]
    have hne : (rk R a != rk R b) = false := by rw [h]; simp
    clear h
    go_enter Tryz.func118, Tryz.ntmps118
    go_wp2_with fail
    go_quiet (first | (go_at_call 117; exact Calls.quiet_of_same (C0.out _ _)))
    go_wp2_with fail
    go_ret
    exact ⟨by rw [HR.out]; rfl, _, rfl⟩
  · have HR : Hid (lessB R a b = decide (rk R a < rk R b)) := by unfold Hid lessB; rw [if_neg h]
    have hne : (rk R a != rk R b) = true := by simpa using h
    clear h
    go_enter Tryz.func118, Tryz.ntmps118
    go_wp2_with fail
    go_quiet (first | (go_at_call 117; exact Calls.quiet_of_same (C0.out _ _)))
    go_wp2_with fail
    obtain ⟨W1, hW1⟩ : ∃ W1, W1 = w.drewN nq := ⟨_, rfl⟩
    have hf1 : W1.cell? ⟨F, 0, none⟩ = some (.func (.func 117) #[] #[.pointer (some ⟨B, 0, none⟩)]) := by rw [hW1]; exact hf
    have C : Hid (∀ (x : Int) (n : Nat), Calls Tryz.prog 117 #[.int .i64 x, .pointer (some ⟨B, 0, none⟩)] (W1.drewN n) fun e w' => e = .returned (.int .i64 (rk R x)) ∧ w' = W1.drewN n) := by rw [hW1]; exact fun x n => (rank_any R A c B x ((w.drewN nq).drewN n) hb hr).mono (by rintro e w' ⟨rfl, rfl⟩; exact ⟨rfl, rfl⟩)
    rw [← hW1]
    have HW1 := Lib.hid hW1
    clear hW1 hf
    go_quiet (first | (go_at_call 117; exact Calls.quiet_of_same (C.out _ _)))
    go_wp2_with fail
    go_ret
    exact ⟨by rw [HR.out]; rfl, by rw [HW1.out, drewN_add]; exact ⟨_, rfl⟩⟩

/-- the closures of the ranks, made -/
def twoF (w : World) (A : Option Addr) (n c : Nat) : World := (w.alloc (.cells #[.slice A n c] 24)).alloc (.cells #[.func (.func 117) #[] #[.pointer (some ⟨w.heap.size, 0, none⟩)]] 127)
theorem order_any (A : Option Addr) (n c : Nat) (w : World) : Calls Tryz.prog 85 #[.slice A n c] w fun e w' => e = .returned (.func (.func 118) #[] #[.pointer (some ⟨w.heap.size + 1, 0, none⟩)]) ∧ w' = twoF w A n c := by
  go_enter Tryz.func85, Tryz.ntmps85
  go_wp2_with fail
  go_ret
  exact ⟨rfl, rfl⟩
theorem twoF_q (w : World) (A : Option Addr) (n c : Nat) : Q w (twoF w A n c) := ((Q.refl w).alloc _).alloc _
/-- the order's closure, wherever its boxes are -/
theorem aheadF (R : List Int) (A : Option Addr) (n c : Nat) (hn : n = R.length) (a b : Int) (w W : World) (hr : Rds w w.heap.size A (cellsI R)) (q : Q (twoF w A n c) W) :
    Calls Tryz.prog 118 #[.int .i64 a, .int .i64 b, .pointer (some ⟨w.heap.size + 1, 0, none⟩)] W fun e w' => e = .returned (.bool (lessB R a b)) ∧ ∃ d, w' = W.drewN d := by
  subst hn
  have h1 : (twoF w A R.length c).cell? ⟨w.heap.size + 1, 0, none⟩ = some (.func (.func 117) #[] #[.pointer (some ⟨w.heap.size, 0, none⟩)]) := by unfold twoF; rw [← World.size_alloc w (.cells #[.slice A R.length c] 24)]; simp
  have h0 : (twoF w A R.length c).cell? ⟨w.heap.size, 0, none⟩ = some (.slice A R.length c) := by unfold twoF; simp
  exact ahead_any R A c w.heap.size (w.heap.size + 1) a b W ((q.cell (p := ⟨w.heap.size + 1, 0, none⟩) (by unfold twoF; simp)).trans h1) ((q.cell (p := ⟨w.heap.size, 0, none⟩) (by unfold twoF; simp; omega)).trans h0) (hr.q ((twoF_q w A R.length c).trans q))

theorem less_any (R : List Int) (A : Option Addr) (n c : Nat) (a b : Int) (w : World) (hn : n = R.length) (hr : Rds w w.heap.size A (cellsI R)) :
    Calls Tryz.prog 40 #[.slice A n c, .int .i64 a, .int .i64 b] w fun e w' => e = .returned (.bool (lessB R a b)) ∧ Q w w' := by
  have C := Lib.hid (aheadF R A n c hn a b w _ hr (Q.refl _))
  have q := twoF_q w A n c
  subst hn
  clear hr
  go_enter Tryz.func40, Tryz.ntmps40
  go_wp2_with fail
  refine (order_any _ _ _ _).mono ?_
  rintro e w1 ⟨rfl, rfl⟩
  generalize twoF w A R.length c = W at *
  go_wp2_with fail
  refine C.out.mono ?_
  rintro e w1 ⟨rfl, hd⟩
  go_wp2_with fail
  go_ret
  exact ⟨rfl, q.trans (q_drewN _ hd)⟩

set_option maxHeartbeats 2000000 in
/-- the document's order -/
theorem refLess_any (R : List Int) (A : Option Addr) (n c : Nat) (a b : Int) (w : World) (hn : n = R.length) (hr : Rds w w.heap.size A (cellsI R)) :
    Calls Tryz.prog 45 #[.slice A n c, .int .i64 a, .int .i64 b] w fun e w' => e = .returned (.bool (lessB R a b)) ∧ w = w' := by
  subst hn
  have H : ∀ x : Int, (0 ≤ x ∧ x < R.length) ∨ ¬ 0 ≤ x ∨ (0 ≤ x ∧ ¬ x < R.length) := fun x => by omega
  have HR : Hid (lessB R a b = if rk R a = rk R b then decide (a < b) else decide (rk R a < rk R b)) := Lib.hid rfl
  rcases H a with ha | ha | ha
  · have Hb := H b
    clear H
    obtain ⟨i, rfl⟩ := Int.eq_ofNat_of_zero_le ha.1
    have hi : i < R.length := by omega
    have ea : rk R (i : Int) = R[i] := by unfold rk; rw [if_pos ha]; simp [hi]
    have a1 : decide ((0 : Int) ≤ (i : Int)) = true := decide_eq_true ha.1
    have a2 : decide (i < R.length) = true := decide_eq_true hi
    rcases Hb with hb | hb | hb
    · obtain ⟨j, rfl⟩ := Int.eq_ofNat_of_zero_le hb.1
      have hj : j < R.length := by omega
      have eb : rk R (j : Int) = R[j] := by unfold rk; rw [if_pos hb]; simp [hj]
      have b1 : decide ((0 : Int) ≤ (j : Int)) = true := decide_eq_true hb.1
      have b2 : decide (j < R.length) = true := decide_eq_true hj
      obtain ⟨ad, e, _, c0⟩ := hr.int_at hi
      subst e
      have c1 := hr.int_some hj
      rw [ea, eb] at HR
      clear hr ea eb ha hb
      generalize R[i] = x at *
      generalize R[j] = y at *
      by_cases h : x = y
      · rw [if_pos h] at HR
        have hne : (x != y) = false := by rw [h]; simp
        clear h
        go_enter Tryz.func45, Tryz.ntmps45
        go_wp2_with fail
        go_ret
        exact ⟨by rw [HR.out]; first | rfl | simp, rfl⟩
      · rw [if_neg h] at HR
        have hne : (x != y) = true := by simpa using h
        clear h
        go_enter Tryz.func45, Tryz.ntmps45
        go_wp2_with fail
        go_ret
        exact ⟨by rw [HR.out]; first | rfl | simp, rfl⟩
    · have eb : rk R b = 0 := by unfold rk; rw [if_neg (fun k => hb k.1)]
      have b1 : decide ((0 : Int) ≤ b) = false := decide_eq_false hb
      obtain ⟨ad, e, _, c0⟩ := hr.int_at hi
      subst e
      rw [ea, eb] at HR
      clear hr ea eb ha hb
      generalize R[i] = x at *
      by_cases h : x = (0 : Int)
      · rw [if_pos h] at HR
        have hne : (x != (0 : Int)) = false := by rw [h]; simp
        clear h
        go_enter Tryz.func45, Tryz.ntmps45
        go_wp2_with fail
        go_ret
        exact ⟨by rw [HR.out]; first | rfl | simp, rfl⟩
      · rw [if_neg h] at HR
        have hne : (x != (0 : Int)) = true := by simpa using h
        clear h
        go_enter Tryz.func45, Tryz.ntmps45
        go_wp2_with fail
        go_ret
        exact ⟨by rw [HR.out]; first | rfl | simp, rfl⟩
    · have eb : rk R b = 0 := by unfold rk; rw [if_neg (fun k => hb.2 k.2)]
      have b1 : decide ((0 : Int) ≤ b) = true := decide_eq_true hb.1
      have b2 : decide (b < (R.length : Int)) = false := decide_eq_false hb.2
      obtain ⟨ad, e, _, c0⟩ := hr.int_at hi
      subst e
      rw [ea, eb] at HR
      clear hr ea eb ha hb
      generalize R[i] = x at *
      by_cases h : x = (0 : Int)
      · rw [if_pos h] at HR
        have hne : (x != (0 : Int)) = false := by rw [h]; simp
        clear h
        go_enter Tryz.func45, Tryz.ntmps45
        go_wp2_with fail
        go_ret
        exact ⟨by rw [HR.out]; first | rfl | simp, rfl⟩
      · rw [if_neg h] at HR
        have hne : (x != (0 : Int)) = true := by simpa using h
        clear h
        go_enter Tryz.func45, Tryz.ntmps45
        go_wp2_with fail
        go_ret
        exact ⟨by rw [HR.out]; first | rfl | simp, rfl⟩
  · have Hb := H b
    clear H
    have ea : rk R a = 0 := by unfold rk; rw [if_neg (fun k => ha k.1)]
    have a1 : decide ((0 : Int) ≤ a) = false := decide_eq_false ha
    rcases Hb with hb | hb | hb
    · obtain ⟨j, rfl⟩ := Int.eq_ofNat_of_zero_le hb.1
      have hj : j < R.length := by omega
      have eb : rk R (j : Int) = R[j] := by unfold rk; rw [if_pos hb]; simp [hj]
      have b1 : decide ((0 : Int) ≤ (j : Int)) = true := decide_eq_true hb.1
      have b2 : decide (j < R.length) = true := decide_eq_true hj
      obtain ⟨ad, e, _, c1⟩ := hr.int_at hj
      subst e
      rw [ea, eb] at HR
      clear hr ea eb ha hb
      generalize R[j] = y at *
      by_cases h : (0 : Int) = y
      · rw [if_pos h] at HR
        have hne : ((0 : Int) != y) = false := by rw [h]; simp
        clear h
        go_enter Tryz.func45, Tryz.ntmps45
        go_wp2_with fail
        go_ret
        exact ⟨by rw [HR.out]; first | rfl | simp, rfl⟩
      · rw [if_neg h] at HR
        have hne : ((0 : Int) != y) = true := by simpa using h
        clear h
        go_enter Tryz.func45, Tryz.ntmps45
        go_wp2_with fail
        go_ret
        exact ⟨by rw [HR.out]; first | rfl | simp, rfl⟩
    · have eb : rk R b = 0 := by unfold rk; rw [if_neg (fun k => hb k.1)]
      have b1 : decide ((0 : Int) ≤ b) = false := decide_eq_false hb
      rw [ea, eb] at HR
      clear hr ea eb ha hb
      rw [if_pos rfl] at HR
      go_enter Tryz.func45, Tryz.ntmps45
      go_wp2_with fail
      go_ret
      exact ⟨by rw [HR.out]; first | rfl | simp, rfl⟩
    · have eb : rk R b = 0 := by unfold rk; rw [if_neg (fun k => hb.2 k.2)]
      have b1 : decide ((0 : Int) ≤ b) = true := decide_eq_true hb.1
      have b2 : decide (b < (R.length : Int)) = false := decide_eq_false hb.2
      rw [ea, eb] at HR
      clear hr ea eb ha hb
      rw [if_pos rfl] at HR
      go_enter Tryz.func45, Tryz.ntmps45
      go_wp2_with fail
      go_ret
      exact ⟨by rw [HR.out]; first | rfl | simp, rfl⟩
  · have Hb := H b
    clear H
    have ea : rk R a = 0 := by unfold rk; rw [if_neg (fun k => ha.2 k.2)]
    have a1 : decide ((0 : Int) ≤ a) = true := decide_eq_true ha.1
    have a2 : decide (a < (R.length : Int)) = false := decide_eq_false ha.2
    rcases Hb with hb | hb | hb
    · obtain ⟨j, rfl⟩ := Int.eq_ofNat_of_zero_le hb.1
      have hj : j < R.length := by omega
      have eb : rk R (j : Int) = R[j] := by unfold rk; rw [if_pos hb]; simp [hj]
      have b1 : decide ((0 : Int) ≤ (j : Int)) = true := decide_eq_true hb.1
      have b2 : decide (j < R.length) = true := decide_eq_true hj
      obtain ⟨ad, e, _, c1⟩ := hr.int_at hj
      subst e
      rw [ea, eb] at HR
      clear hr ea eb ha hb
      generalize R[j] = y at *
      by_cases h : (0 : Int) = y
      · rw [if_pos h] at HR
        have hne : ((0 : Int) != y) = false := by rw [h]; simp
        clear h
        go_enter Tryz.func45, Tryz.ntmps45
        go_wp2_with fail
        go_ret
        exact ⟨by rw [HR.out]; first | rfl | simp, rfl⟩
      · rw [if_neg h] at HR
        have hne : ((0 : Int) != y) = true := by simpa using h
        clear h
        go_enter Tryz.func45, Tryz.ntmps45
        go_wp2_with fail
        go_ret
        exact ⟨by rw [HR.out]; first | rfl | simp, rfl⟩
    · have eb : rk R b = 0 := by unfold rk; rw [if_neg (fun k => hb k.1)]
      have b1 : decide ((0 : Int) ≤ b) = false := decide_eq_false hb
      rw [ea, eb] at HR
      clear hr ea eb ha hb
      rw [if_pos rfl] at HR
      go_enter Tryz.func45, Tryz.ntmps45
      go_wp2_with fail
      go_ret
      exact ⟨by rw [HR.out]; first | rfl | simp, rfl⟩
    · have eb : rk R b = 0 := by unfold rk; rw [if_neg (fun k => hb.2 k.2)]
      have b1 : decide ((0 : Int) ≤ b) = true := decide_eq_true hb.1
      have b2 : decide (b < (R.length : Int)) = false := decide_eq_false hb.2
      rw [ea, eb] at HR
      clear hr ea eb ha hb
      rw [if_pos rfl] at HR
      go_enter Tryz.func45, Tryz.ntmps45
      go_wp2_with fail
      go_ret
      exact ⟨by rw [HR.out]; first | rfl | simp, rfl⟩

theorem upU (V : List Int) (A : Option Addr) (n c m : Nat) (w : World) (hn : n = V.length) (hr : Rds w w.heap.size A (cellsI V)) (hm : m < V.length) (p : Nat) (hp : V[m]? = some (p : Int)) (hpl : p < V.length) :
    Calls Tryz.prog 83 #[.slice A n c, .int .i64 (m : Int)] w fun e w' => e = .returned (.int .i64 (p : Int)) ∧ w = w' := by
  subst hn
  obtain ⟨ad, rfl, _, c0⟩ := hr.int_at hm
  obtain ⟨_, hp'⟩ := List.getElem?_eq_some_iff.1 hp
  rw [hp'] at c0
  have h0 : (0 : Int) ≤ (m : Int) := by omega
  have h1 : (m : Int) < (V.length : Int) := by omega
  have hd : (decide (0 ≤ (m : Int)) && decide ((m : Int) < (V.length : Int))) = true := by rw [decide_eq_true h0, decide_eq_true h1]; rfl
  have hd2 : (decide (0 ≤ (p : Int)) && decide ((p : Int) < (V.length : Int))) = true := by rw [decide_eq_true (show (0 : Int) ≤ (p : Int) by omega), decide_eq_true (show (p : Int) < (V.length : Int) by omega)]; rfl
  clear hr hp hp'
  go_enter Tryz.func83, Tryz.ntmps83
  go_wp2_with (go_at_call 86; refine (placeU _ _ _).mono ?_; rintro e w2 ⟨rfl, rfl⟩; first | rw [hd] | rw [hd2])
  go_ret
  exact ⟨rfl, rfl⟩
end Go.Proofs.YtjmopbimleoidaaGreat.Uf

namespace Go.Proofs.YtjmopbimleoidaaGreat.Uf
open Go.RowKit Kit Tr

set_option maxRecDepth 100000 in
set_option maxHeartbeats 1000000 in
theorem find_any (R : List Int) (c : Cells) (m : Nat) (A D E : Option Addr) (n1 k1 n2 k2 n3 k3 : Nat) (w : World) (h1 : n1 = c.V.length) (h2 : n2 = c.N.length) (h3 : n3 = c.M.length) (h : Rd w c A k1 D k2 E k3) (hC : Cl R c.V) (hm : m < c.V.length) (hl : c.V.length ≤ 1000000) :
    Calls Tryz.prog 38 #[.agg #[.slice A n1 k1, .slice D n2 k2, .slice E n3 k3], .int .i64 (m : Int)] w fun e w' => e = .returned (.int .i64 (fst c.V m : Int)) ∧ Q w w' := by
  subst h1 h2 h3
  have q0 := (Q.refl w).alloc (Obj.cells #[Value.slice A c.V.length k1, Value.slice D c.N.length k2, Value.slice E c.M.length k3] 29)
  have HB := Lib.hid (Box3.new w (Value.slice A c.V.length k1) (Value.slice D c.N.length k2) (Value.slice E c.M.length k3) 29)
  have HR := Lib.hid (h.q q0)
  have HC := Lib.hid hC
  have HF : Hid (root c.V (c.V.length - 0) m = fst c.V m) := rfl
  clear h hC
  go_enter Tryz.func38, Tryz.ntmps38
  go_upto_region 1 with fail
  generalize w.alloc (Obj.cells #[Value.slice A c.V.length k1, Value.slice D c.N.length k2, Value.slice E c.M.length k3] 29) = W0 at *
  have b0 := HB.out.c0
  go_wp2_with fail
  go_loopw [1, 9] (fun x i wr => ∃ (k y : Nat), k ≤ c.V.length ∧ y < c.V.length ∧ i = .int .i64 k ∧ x = .int .i64 (y : Int) ∧ Hid (root c.V (c.V.length - k) y = fst c.V m) ∧ W0 = wr) (fun _ i _ => c.V.length - (intOf i).toNat)
  case atStart => exact ⟨0, m, Nat.zero_le _, hm, rfl, rfl, HF, rfl⟩
  case round =>
    clear HF
    obtain ⟨k, y, hk, hy, rfl, rfl, HH, rfl⟩ := hrel
    by_cases hlt : k < c.V.length
    · obtain ⟨p1, p2, _⟩ := HC.out.parent hy
      have C := Lib.hid (upU c.V A _ k1 y W0 rfl HR.out.v hy _ p2 p1)
      by_cases e : par c.V y = y
      · have HF : Hid (fst c.V m = y) := by have := HH.out; rw [root_stay e] at this; exact this.symm
        rw [e] at C
        clear p1 p2 e
        go_wp2_with (go_at_call 83; refine C.out.mono ?_; rintro e w2 ⟨rfl, rfl⟩)
        go_ret
        exact ⟨by rw [HF.out]; rfl, q0⟩
      · have HF : Hid (root c.V (c.V.length - (k + 1)) (par c.V y) = fst c.V m) := by
          have := HH.out
          rw [show c.V.length - k = (c.V.length - (k + 1)) + 1 by omega] at this
          unfold root at this
          rw [if_neg e] at this
          exact this
        have e1 : ((par c.V y : Int) == (y : Int)) = false := beq_eq_false_iff_ne.2 (by omega)
        have e2 : (par c.V y == y) = false := by simpa using e
        clear p2 e
        go_wp2_with (go_at_call 83; refine C.out.mono ?_; rintro e w2 ⟨rfl, rfl⟩)
        go_roundw
        case rel => exact ⟨k + 1, par c.V y, by omega, p1, by go_num, rfl, HF, trivial⟩
        case measure => simp [intOf]; omega
    · have HF : Hid (y = fst c.V m) := by
        have := HH.out
        rw [show c.V.length - k = 0 by omega] at this
        exact this
      go_wp2_with fail
      go_ret
      exact ⟨by rw [← HF.out]; rfl, q0⟩

set_option maxRecDepth 100000 in
set_option maxHeartbeats 2000000 in
theorem right5_any (R : List Int) (c : Cells) (A D E F : Option Addr) (n1 k1 n2 k2 n3 k3 n4 k4 : Nat) (w : World) (h1 : n1 = c.V.length) (h2 : n2 = c.N.length) (h3 : n3 = c.M.length) (h4 : n4 = R.length) (h : Rd w c A k1 D k2 E k3) (hR : Rds w w.heap.size F (cellsI R)) (hf : Few c 1000000) :
    Calls Tryz.prog 51 #[.agg #[.slice A n1 k1, .slice D n2 k2, .slice E n3 k3], .slice F n4 k4] w fun e w' => e = .returned (.bool (clB R c.V && rightB c)) ∧ Q w w' := by
  subst h1 h2 h3 h4
  have Hf := Lib.hid hf
  obtain ⟨fv, fn, fm⟩ := hf
  have q0 := (Q.refl w).alloc (Obj.cells #[Value.slice A c.V.length k1, Value.slice D c.N.length k2, Value.slice E c.M.length k3] 29)
  have HB := Lib.hid (Box3.new w (Value.slice A c.V.length k1) (Value.slice D c.N.length k2) (Value.slice E c.M.length k3) 29)
  have HR := Lib.hid (h.q q0)
  have HRk := Lib.hid (hR.q q0)
  clear h hR
  go_enter Tryz.func51, Tryz.ntmps51
  go_wp2_with fail
  generalize w.alloc (Obj.cells #[Value.slice A c.V.length k1, Value.slice D c.N.length k2, Value.slice E c.M.length k3] 29) = W0 at *
  have b0 := HB.out.c0
  have b1 := HB.out.c1
  have b2 := HB.out.c2
  go_loopw [5] (fun i wr => ∃ k : Nat, k ≤ c.V.length ∧ i = .int .i64 k ∧ Hid (∀ n, n < k → okB R c.V n = true) ∧ W0 = wr) (fun i _ => c.V.length - (intOf i).toNat)
  case atStart => exact ⟨0, Nat.zero_le _, rfl, Lib.hid (fun n hn => absurd hn (by omega)), rfl⟩
  case round =>
    obtain ⟨k, hk, rfl, HH, rfl⟩ := hrel
    by_cases hlt : k < c.V.length
    · obtain ⟨ad, e, hb, c0⟩ := HR.out.v.int_at hlt
      have HE := Lib.hid e
      clear e
      have hget : c.V.getD k 0 = c.V[k] := by rw [List.getD_eq_getElem?_getD, List.getElem?_eq_getElem hlt]; rfl
      have HO : Hid (okB R c.V k = ((c.V[k] == (k : Int)) || (decide (0 ≤ c.V[k]) && decide (c.V[k] < c.V.length) && lessB R c.V[k] k))) := by unfold Hid okB; rw [hget]
      clear hget
      have HN : Hid (okB R c.V k = true → ∀ n, n < k + 1 → okB R c.V n = true) := fun hk n hn => by
        by_cases e : n = k
        · subst e; exact hk
        · exact HH.out n (by omega)
      have HZ : Hid (okB R c.V k = false → clB R c.V = false) := fun hk => decide_eq_false (fun h => by have := h k hlt; rw [hk] at this; cases this)
      have b0' : W0.cell? ⟨w.heap.size, 0, none⟩ = some (.slice (some ad) c.V.length k1) := by rw [← HE.out]; exact b0
      generalize c.V[k] = x at *
      by_cases x1 : x = (k : Int)
      · have HK := HN.out (by rw [HO.out, x1]; simp)
        have d1 : (x == (k : Int)) = true := by simpa using x1
        have HK := Lib.hid HK
        clear x1 b0
        go_wp2_with fail
        go_roundw
        case rel => exact ⟨k + 1, by omega, by go_num, HK, trivial⟩
        case measure => simp [intOf]; omega
      · have d1 : (x == (k : Int)) = false := by simpa using x1
        have HO : Hid (okB R c.V k = (decide (0 ≤ x) && decide (x < c.V.length) && lessB R x k)) := by have := HO.out; rw [d1, Bool.false_or] at this; exact this
        clear x1
        by_cases x2 : x < 0
        · have HF := Lib.hid (HZ.out (by rw [HO.out, decide_eq_false (by omega)]; rfl))
          have d2 : decide (x < 0) = true := decide_eq_true x2
          clear x2 b0
          go_wp2_with fail
          go_ret
          exact ⟨by rw [HF.out]; rfl, q0⟩
        · have d2 : decide (x < 0) = false := decide_eq_false x2
          by_cases x3 : (c.V.length : Int) ≤ x
          · have HF := Lib.hid (HZ.out (by rw [HO.out, decide_eq_false (show ¬ x < (c.V.length : Int) by omega), Bool.and_false]; rfl))
            have d3 : decide ((c.V.length : Int) ≤ x) = true := decide_eq_true x3
            clear x2 x3 b0
            go_wp2_with fail
            go_ret
            exact ⟨by rw [HF.out]; rfl, q0⟩
          · have d3 : decide ((c.V.length : Int) ≤ x) = false := decide_eq_false x3
            have C := Lib.hid (refLess_any R F _ k4 x k W0 rfl HRk.out)
            cases hls : lessB R x k
            · have HF := Lib.hid (HZ.out (by rw [HO.out, hls, Bool.and_false]))
              rw [hls] at C
              clear x2 x3 b0 hls
              go_wp2_with (go_at_call 45; refine C.out.mono ?_; rintro e w2 ⟨rfl, rfl⟩)
              go_ret
              exact ⟨by rw [HF.out]; rfl, q0⟩
            · have HK := Lib.hid (HN.out (by rw [HO.out, hls, decide_eq_true (show (0 : Int) ≤ x by omega), decide_eq_true (show x < (c.V.length : Int) by omega)]; rfl))
              rw [hls] at C
              clear x2 x3 b0 hls
              go_wp2_with (go_at_call 45; refine C.out.mono ?_; rintro e w2 ⟨rfl, rfl⟩)
              go_roundw
              case rel => exact ⟨k + 1, by omega, by go_num, HK, trivial⟩
              case measure => simp [intOf]; omega
    · have HT : Hid (clB R c.V = true) := decide_eq_true (fun n hn => HH.out n (by omega))
      have C := Lib.hid (refRight_any c A D E _ k1 _ k2 _ k3 W0 rfl rfl rfl HR.out Hf.out)
      go_wp2_with (go_at_call 93; refine C.out.mono ?_; rintro e w2 ⟨rfl, q2⟩)
      go_ret
      exact ⟨by rw [HT.out]; rfl, q0.trans q2⟩
end Go.Proofs.YtjmopbimleoidaaGreat.Uf

namespace Go.Proofs.YtjmopbimleoidaaGreat.Ig
open Go.RowKit Kit Tr Uf
open Go.Proofs.YtjmopbimleoidaaGreat.Hs (Keys Ints atI refAt_any)
theorem root_next {V : List Int} {j y : Nat} : root V (j + 1) y = root V j (par V y) := by
  show (if par V y = y then y else root V j (par V y)) = _
  by_cases e : par V y = y
  · rw [if_pos e, e, root_stay e]
  · rw [if_neg e]

set_option maxRecDepth 100000 in
set_option maxHeartbeats 1000000 in
theorem refFind_any (R V : List Int) (m : Nat) (A : Option Addr) (n1 k1 : Nat) (b d : Value) (w : World) (h1 : n1 = V.length) (h : Tr.Rds w w.heap.size A (cellsI V)) (hC : Cl R V) (hm : m < V.length) (hl : V.length ≤ 1000000) :
    Calls Tryz.prog 14 #[.agg #[.slice A n1 k1, b, d], .int .i64 (m : Int)] w fun e w' => e = .returned (.int .i64 (fst V m : Int)) ∧ Q w w' := by
  subst h1
  have q0 := (Q.refl w).alloc (Obj.cells #[Value.slice A V.length k1, b, d] 29)
  have HB := Lib.hid (Box3.new w (Value.slice A V.length k1) b d 29)
  have HR := Lib.hid (h.q q0)
  have HC := Lib.hid hC
  have HF : Hid (root V (V.length - 0) m = fst V m) := rfl
  clear h hC
  go_enter Tryz.func14, Tryz.ntmps14
  go_wp2_with fail
  generalize w.alloc (Obj.cells #[Value.slice A V.length k1, b, d] 29) = W0 at *
  have b0 := HB.out.c0
  go_loopw [1, 5] (fun x i wr => ∃ (k y : Nat), k ≤ V.length ∧ y < V.length ∧ i = .int .i64 k ∧ x = .int .i64 (y : Int) ∧ Hid (root V (V.length - k) y = fst V m) ∧ W0 = wr) (fun _ i _ => V.length - (intOf i).toNat)
  case atStart => exact ⟨0, m, Nat.zero_le _, hm, rfl, rfl, HF, rfl⟩
  case round =>
    clear HF
    obtain ⟨k, y, hk, hy, rfl, rfl, HH, rfl⟩ := hrel
    by_cases hlt : k < V.length
    · obtain ⟨p1, p2, _⟩ := HC.out.parent hy
      obtain ⟨ad, e, hb, c0⟩ := HR.out.int_at hy
      rw [HC.out.at hy] at c0
      have HF : Hid (root V (V.length - (k + 1)) (par V y) = fst V m) := by
        have := HH.out
        rw [show V.length - k = (V.length - (k + 1)) + 1 by omega, root_next] at this
        exact this
      have b0' : W0.cell? ⟨w.heap.size, 0, none⟩ = some (.slice (some ad) V.length k1) := by rw [← e]; exact b0
      clear p2 b0 e
      go_wp2_with fail
      go_roundw
      case rel => exact ⟨k + 1, par V y, by omega, p1, by go_num, rfl, HF, trivial⟩
      case measure => simp [intOf]; omega
    · have HF : Hid (y = fst V m) := by
        have := HH.out
        rw [show V.length - k = 0 by omega] at this
        exact this
      go_wp2_with fail
      go_ret
      exact ⟨by rw [← HF.out]; rfl, q0⟩
end Go.Proofs.YtjmopbimleoidaaGreat.Ig

namespace Go.Proofs.YtjmopbimleoidaaGreat.Ig
open Go.RowKit Kit Tr Uf
open Go.Proofs.YtjmopbimleoidaaGreat.Hs (Keys Ints atI refAt_any BoxT)
open Go.Proofs.YtjmopbimleoidaaGreat.Tm (Tm termAt refOf_any Box4)
/-- the place of a variable's term -/
def atV (ks : List (List Int)) (n : Int) : Int := atI ks [2, n, 0]
/-- a term's variable, if it is one of the first m -/
def numV (ks : List (List Int)) (m : Nat) (id : Int) : Int :=
  let t := (termAt ks id).getD Tm.none
  if (termAt ks id).isSome = true ∧ t.k = 2 ∧ t.s < (m : Int) then t.s else -1
/-- the one for a term -/
def repV (ks : List (List Int)) (V : List Int) (id : Int) : Int :=
  if numV ks V.length id < 0 then id else atV ks (fst V (numV ks V.length id).toNat : Int)

theorem key_ints (w : World) (x : Int) (t : TypeId) : Ints (w.alloc (.cells #[.int .i64 2, .int .i64 x, .int .i64 0] t)) (w.alloc (.cells #[.int .i64 2, .int .i64 x, .int .i64 0] t)).heap.size (some ⟨w.heap.size, 0, none⟩) [2, x, 0] := fun _ => by
  refine ⟨_, rfl, by simp, fun i y h => ?_⟩
  match i, h with
  | 0, h => simp at h; subst h; simp [Addr.add]
  | 1, h => simp at h; subst h; simp [Addr.add]
  | 2, h => simp at h; subst h; simp [Addr.add]
  | i + 3, h => simp at h

set_option maxRecDepth 100000 in
set_option maxHeartbeats 1000000 in
theorem refAtV_any (A : Option Addr) (n c : Nat) (b : Value) (ks : List (List Int)) (x : Int) (w : World) (hn : n = ks.length) (hk : Keys w w.heap.size A ks) (hl : ks.length ≤ maxLen) (hs : ∀ k ∈ ks, k.length ≤ maxLen) :
    Calls Tryz.prog 17 #[.agg #[.slice A n c, b], .int .i64 x] w fun e w' => e = .returned (.int .i64 (atV ks x)) ∧ Q w w' := by
  subst hn
  have q0 := (Q.refl w).alloc (Obj.cells #[Value.slice A ks.length c, b] 26)
  have HB := Lib.hid (BoxT.new w (Value.slice A ks.length c) b 26)
  have Hk := Lib.hid ((hk.q (Nat.le_refl _) q0).more q0.size)
  clear hk
  go_enter Tryz.func17, Tryz.ntmps17
  go_upto_region 1 with fail
  generalize w.alloc (Obj.cells #[Value.slice A ks.length c, b] 26) = W0 at *
  have b0 := HB.out.c0
  have q1 := (Q.refl W0).alloc (Obj.cells #[.int .i64 2, .int .i64 x, .int .i64 0] 3)
  have C := Lib.hid (refAt_any A (some ⟨W0.heap.size, 0, none⟩) _ c 3 3 ks [2, x, 0] (W0.alloc (Obj.cells #[.int .i64 2, .int .i64 x, .int .i64 0] 3)) rfl rfl ((Hk.out.q (Nat.le_refl _) q1).more q1.size) (key_ints W0 x 3) hl hs)
  go_wp2_with (go_at_call 53; refine C.out.mono ?_; rintro e w2 ⟨rfl, hd⟩)
  go_ret
  exact ⟨rfl, (q0.trans q1).trans (q_drewN _ hd)⟩
end Go.Proofs.YtjmopbimleoidaaGreat.Ig
