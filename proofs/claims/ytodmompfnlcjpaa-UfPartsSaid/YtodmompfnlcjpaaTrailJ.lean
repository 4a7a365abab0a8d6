/-
  Contracts of the document's answers: Ints, Few, cells, Right, and Same of the same.
-/
import Derived.Test.YtodmompfnlcjpaaTrailB
namespace Go.Proofs.Ytodmompfnlcjpaa.Tr
open Go.RowKit Kit

set_option maxHeartbeats 400000 in
theorem ints_same (A B : Option Addr) (n c n' c' : Nat) (l : List Int) (w : World) (hn : n = l.length) (hn' : n' = l.length) (hr : Rds w w.heap.size A (cellsI l)) (hr' : Rds w w.heap.size B (cellsI l)) (hl : l.length ≤ 1000000) :
    Calls Try.prog 13 #[.slice A n c, .slice B n' c'] w fun e w' => e = .returned (.bool true) ∧ ∃ d, w' = w.drewN d := by
  subst hn
  subst hn'
  have hne : ((l.length : Int) != (l.length : Int)) = false := by simp
  have HR := Lib.hid hr
  have HR' := Lib.hid hr'
  clear hr hr'
  go_enter Try.func13, Try.ntmps13
  go_wp2_with fail
  go_loopw [5] (fun i wr => ∃ k : Nat, k ≤ l.length ∧ i = .int .i64 k ∧ ∃ d, wr = w.drewN d) (fun i _ => l.length - (intOf i).toNat)
  case atStart => exact ⟨0, Nat.zero_le _, rfl, 0, rfl⟩
  case round =>
    obtain ⟨k, hk, rfl, d, rfl⟩ := hrel
    by_cases hlt : k < l.length
    · obtain ⟨ad, e, hb, c0⟩ := HR.out.int_at hlt
      obtain ⟨ad', e', hb', c0'⟩ := HR'.out.int_at hlt
      have HE := Lib.hid e
      have HE' := Lib.hid e'
      clear e e'
      rw [HE.out, HE'.out]
      have he' : (l[k] != l[k]) = false := by simp
      go_wp2_with fail
      go_region
      all_goals go_wp2_with fail
      all_goals go_roundw
      case rel => exact ⟨k + 1, by omega, by go_num, d + 1, rfl⟩
      case measure => simp [intOf]; omega
    · go_wp2_with fail
      go_ret
      exact ⟨rfl, d, rfl⟩
theorem drewN_add (w : World) (a b : Nat) : (w.drewN a).drewN b = w.drewN (a + b) := by simp [World.drewN, Nat.add_assoc]
theorem q_drewN (w : World) {w' : World} (h : ∃ d, w' = w.drewN d) : Q w w' := by
  obtain ⟨d, rfl⟩ := h
  exact (Q.refl w).drewN d

def fewB (c : Cells) : Bool := decide ((c.V.length : Int) + c.N.length + c.M.length ≤ 500)
theorem few_of {c : Cells} (h : fewB c = true) : c.V.length + c.N.length + c.M.length ≤ 500 := by have := of_decide_eq_true h; omega
theorem few_any (c : Cells) (A D E : Option Addr) (n1 k1 n2 k2 n3 k3 : Nat) (w : World) (h1 : n1 = c.V.length) (h2 : n2 = c.N.length) (h3 : n3 = c.M.length) (l1 : n1 ≤ 2305843009213693951) (l2 : n2 ≤ 2305843009213693951) (l3 : n3 ≤ 2305843009213693951) :
    Calls Try.prog 24 #[.agg #[.slice A n1 k1, .slice D n2 k2, .slice E n3 k3]] w fun e w' => e = .returned (.bool (fewB c)) ∧ Q w w' := by
  subst h1 h2 h3
  go_enter Try.func24, Try.ntmps24
  go_wp2_with fail
  go_ret
  exact ⟨rfl, (Q.refl w).alloc _⟩

/-- a row that is written: nil, or in a block of its own, from block B on -/
def OwnO (w : World) (B : Nat) (A : Option Addr) (cs : List Value) : Prop := 0 < cs.length → ∃ g, A = some ⟨g, 0, none⟩ ∧ B ≤ g ∧ OwnC w g cs
theorem OwnO.q {w w' : World} {B : Nat} {A : Option Addr} {cs : List Value} (h : OwnO w B A cs) (q : Q w w') : OwnO w' B A cs := fun h0 => by
  obtain ⟨g, e, hb, hc⟩ := h h0
  exact ⟨g, e, hb, hc.q q⟩
theorem OwnO.take {w : World} {B : Nat} {A : Option Addr} {cs : List Value} (h : OwnO w B A cs) (n : Nat) : OwnO w B A (cs.take n) := fun h0 => by
  obtain ⟨g, e, hb, hc⟩ := h (by rw [List.length_take] at h0; omega)
  exact ⟨g, e, hb, hc.take n⟩

def RefCells (c : Cells) (w : World) (e : Ending) (w' : World) : Prop := ∃ v, e = .returned (.tuple #[v, .bool (backs c.N c.V).isSome]) ∧ Q w w'

theorem back1_nil (was : Int) (v : List Int) (h : v.length = 0) : back1 (-1, was) v = none := by unfold back1; rw [if_pos rfl, if_pos h]
theorem back1_cut (was : Int) (v : List Int) (h : 0 < v.length) : back1 (-1, was) v = some (v.take (v.length - 1)) := by unfold back1; rw [if_pos rfl, if_neg (by omega)]
theorem back1_put (a : Nat) (was : Int) (v : List Int) (h : a < v.length) : back1 ((a : Int), was) v = some (v.set a was) := by
  unfold back1
  rw [if_neg (by show ¬ (a : Int) = -1; omega), if_pos ⟨by show (0 : Int) ≤ a; omega, by show (a : Int) < _; omega⟩]; rfl
theorem back1_no (n : Note) (v : List Int) (h1 : n.1 ≠ -1) (h : ¬ (0 ≤ n.1 ∧ n.1 < v.length)) : back1 n v = none := by unfold back1; rw [if_neg h1, if_neg h]
theorem slice_toJ (A : Option Addr) (n c l : Nat) (i : Int) (hi : i = l) (h : l ≤ c) (u : World) : (Instr.slice 22 (.slice A n c) none (some (.int .i64 i)) none).run Try.prog u = .ok (.slice A l c) u := by
  subst hi
  obtain ⟨i0, hi, hz0, hz1, hz2⟩ := info_parts intInfo
  simp [Instr.slice, run_underlying Try.underlying22, Instr.sliceBounds, Instr.sliceBound, asIntOf, sizeOf, typeInfo, hi, h, Addr.add]

set_option maxRecDepth 100000 in
set_option maxHeartbeats 4000000 in
theorem refCells_any (c : Cells) (A D E : Option Addr) (n1 k1 n2 k2 n3 k3 : Nat) (w : World) (h1 : n1 = c.V.length) (h2 : n2 = c.N.length) (h3 : n3 = c.M.length) (h : Rd w c A k1 D k2 E k3) (hf : Few c 1000000) :
    Calls Try.prog 42 #[.agg #[.slice A n1 k1, .slice D n2 k2, .slice E n3 k3], .int .i64 0] w (RefCells c w) := by
  subst h1 h2 h3
  obtain ⟨fv, fn, fm⟩ := hf
  obtain ⟨i0, hi, hz0, hz1, hz2⟩ := info_parts intInfo
  have Hi := Lib.hid hi
  have Hz0 := Lib.hid hz0
  have Hz1 := Lib.hid hz1
  have Hz2 := Lib.hid hz2
  clear hi hz0 hz1 hz2
  have q0 := (Q.refl w).alloc (Obj.cells #[Value.slice A c.V.length k1, Value.slice D c.N.length k2, Value.slice E c.M.length k3] 25)
  have HB := Lib.hid (Box3.new w (Value.slice A c.V.length k1) (Value.slice D c.N.length k2) (Value.slice E c.M.length k3) 25)
  have HR := Lib.hid (h.q q0)
  have HN := Lib.hid h.n
  clear h
  go_enter Try.func42, Try.ntmps42
  go_upto_region 1 with fail
  generalize w.alloc (Obj.cells #[Value.slice A c.V.length k1, Value.slice D c.N.length k2, Value.slice E c.M.length k3] 25) = W0 at *
  have b0 := HB.out.c0
  have b1 := HB.out.c1
  have hlt0 := HB.out.lt
  have qa := (Q.refl W0).alloc (Obj.cells #[] 3)
  have HsV := Lib.hid (HR.out.v.q qa)
  have Ho := Lib.hid (own_empty (base := w.heap.size + 1) (e := 3) (size := 1) (by omega) (heap_alloc_new W0 (Obj.cells #[] 3)))
  go_upto_region 2 with (at_builtin; refine wpList_append_src _ rfl (.tmp 9) (.tmp 11) _ rfl (w.heap.size + 1) 3 i0 _ 1 8 Try.underlying22 Hi.out Hz0.out Hz1.out Hz2.out rfl (by omega) (.slice (some ⟨W0.heap.size, 0, none⟩) 0 0) 0 [] rfl Ho.out A c.V.length k1 (cellsI c.V) rfl (by rw [cellsI_len]; omega) HsV.out.src (cellsI_one c.V) (by unfold maxLen; omega) (by omega) (by simp; omega) ?_; intro v' w' own' gr' _; have Own := Lib.hid own'; have q2 : Q W0 w' := qa.grown gr' (by simp) (by simp [Value.ownBlock]); clear own' gr')
  have own2 := Own.out
  rw [Nat.zero_add, List.nil_append] at own2
  obtain ⟨A2, K, hv', hK, hO⟩ : ∃ A c', v' = .slice A c.V.length c' ∧ c.V.length ≤ c' ∧ OwnO w' (w.heap.size + 1) A (cellsI c.V) := by
    have h2 := own2
    obtain ⟨hl, ⟨rfl, h0⟩ | ⟨g, cap, cur, rfl, hg, hh, hc, _⟩⟩ := own2
    · exact ⟨none, 0, by rw [h0], by omega, fun h => by rw [cellsI_len] at h; omega⟩
    · exact ⟨_, cap, rfl, hc, fun _ => ⟨g, rfl, hg, OwnC.of_row h2⟩⟩
  have HO := Lib.hid hO
  have HB2 := Lib.hid (HB.out.q q2)
  have HR2 := Lib.hid (HR.out.q q2)
  have q02 := Lib.hid (q0.trans q2)
  have HN2 := Lib.hid (HN.out.keep q02.out)
  have b1' := HB2.out.c1
  have hl2 := HB2.out.lt
  have HV := Lib.hid hv'
  have Hst : Hid ((backs c.N c.V).isSome = (backR (c.N.take c.N.length).reverse c.V).isSome) := by rw [List.take_length]; exact Lib.hid rfl
  clear own2 hv' hO b0 b1 hlt0 qa Own Ho HsV HR HB q0 q2
  rw [HV.out]
  go_wp2_with fail
  go_loopw [6, 7] (fun vv i wr => ∃ (B : Option Addr) (v : List Int) (k : Nat) (j : Int), k ≤ c.N.length ∧ i = .int .i64 j ∧ Hid (j = (k : Int) - 1) ∧ vv = .slice B v.length K ∧ v.length ≤ K ∧ v.length ≤ 1000000 ∧ Hid (OwnO wr (w.heap.size + 1) B (cellsI v)) ∧ Hid (Q w wr) ∧ Hid (Box3 wr w.heap.size (Value.slice A c.V.length k1) (Value.slice D c.N.length k2) (Value.slice E c.M.length k3)) ∧ Hid (Rds wr w.heap.size D (cellsP c.N)) ∧ Hid ((backs c.N c.V).isSome = (backR (c.N.take k).reverse v).isSome)) (fun _ i _ => (intOf i + 1).toNat)
  case atStart => exact ⟨A2, c.V, c.N.length, _, Nat.le_refl _, rfl, Lib.hid rfl, rfl, hK, fv, HO, q02, HB2, HN2, Hst⟩
  case round =>
    clear HO q02 HB2 HR2 HN HN2 Hst b1' hl2
    obtain ⟨B, v, k, j, hk, rfl, HJ, rfl, hvK, hvl, HO, HQ, HB, HR, HH⟩ := hrel
    have b1 := HB.out.c1
    rcases k with _ | k
    · obtain rfl : j = -1 := by have := HJ.out; simpa using this
      have HV0 : Hid ((backs c.N c.V).isSome = true) := HH.out
      go_wp2_with fail
      go_ret2
      exact ⟨_, by rw [HV0.out]; rfl, HQ.out⟩
    · obtain rfl : j = (k : Int) := by have := HJ.out; omega
      have hkl : k < c.N.length := by omega
      have hj0 : (0 : Int) ≤ (k : Int) := Int.natCast_nonneg _
      have HS := HH.out
      rw [backR_at c.N k hkl] at HS
      obtain ⟨ad, e, hb, c0, c1⟩ := HR.out.pair_at hkl
      have HE := Lib.hid e
      clear e
      have hlt := HB.out.lt
      generalize c.N[k] = x at *
      obtain ⟨a, was⟩ := x
      have q1 := (Q.refl wr).alloc (Obj.cells #[.int .i64 a, .int .i64 was] 64)
      by_cases ha : a = -1
      · subst ha
        by_cases hv0 : v.length = 0
        · have HF : Hid ((backs c.N c.V).isSome = false) := by rw [back1_nil was v hv0] at HS; exact Lib.hid HS
          have dl : decide (0 < v.length) = false := decide_eq_false (by omega)
          clear HS hv0
          rw [HE.out] at b1
          go_wp2_with fail
          go_ret2
          exact ⟨_, by rw [HF.out]; rfl, HQ.out.alloc _⟩
        · have hv1 : 0 < v.length := by omega
          have HF : Hid ((backs c.N c.V).isSome = (backR (c.N.take k).reverse (v.take (v.length - 1))).isSome) := by rw [back1_cut was v hv1] at HS; exact Lib.hid HS
          have dl : decide (0 < v.length) = true := decide_eq_true hv1
          have hsl := fun u => slice_toJ B v.length K (v.length - 1) ((v.length : Int) - 1) (by omega) (by omega) u
          have hlen : Hid ((v.take (v.length - 1)).length = v.length - 1) := by unfold Hid; rw [List.length_take]; omega
          have HOt := HO.out.take (v.length - 1)
          have HOt' : Hid (OwnO wr (w.heap.size + 1) B (cellsI (v.take (v.length - 1)))) := by rw [show (cellsI v).take (v.length - 1) = cellsI (v.take (v.length - 1)) by simp [cellsI, List.map_take]] at HOt; exact HOt
          clear HS hv0 HOt
          rw [HE.out] at b1
          go_wp2_with fail
          go_roundw
          case rel => exact ⟨B, v.take (v.length - 1), k, _, by omega, rfl, Lib.hid (by omega), by rw [hlen.out], by rw [hlen.out]; omega, by rw [hlen.out]; omega, Lib.hid (HOt'.out.q q1), Lib.hid (HQ.out.alloc _), Lib.hid (HB.out.q q1), Lib.hid (HR.out.keep (q1.mono (Nat.le_of_lt hlt))), HF⟩
          case measure => simp [intOf]
      · by_cases hp : 0 ≤ a ∧ a < v.length
        · obtain ⟨m, rfl⟩ := Int.eq_ofNat_of_zero_le hp.1
          have hml : m < v.length := by omega
          have HF : Hid ((backs c.N c.V).isSome = (backR (c.N.take k).reverse (v.set m was)).isSome) := by rw [back1_put m was v hml] at HS; exact Lib.hid HS
          have dn : (((m : Nat) : Int) == -1) = false := by simp
          have d1 : decide (0 ≤ ((m : Nat) : Int)) = true := decide_eq_true hp.1
          have d2 : decide (m < v.length) = true := decide_eq_true hml
          obtain ⟨g, e, hg, hc⟩ := HO.out (by rw [cellsI_len]; omega)
          have HE2 := Lib.hid e
          have HC := Lib.hid (hc.q q1)
          have HCw := Lib.hid hc
          have oc := (HC.out.2 m _ (cellsI_at hml)).1
          have of := (HC.out.2 m _ (cellsI_at hml)).2
          have hgs := hc.1
          clear HS hp ha e hc
          rw [HE.out] at b1
          rw [HE2.out]
          go_wp2_with fail
          have hg2 := setCell_grown wr g m (.int .i64 was)
          have q3 := (Q.refl (wr.setCell ⟨g, m, none⟩ (.int .i64 was))).alloc (Obj.cells #[.int .i64 (m : Int), .int .i64 was] 64)
          have hz : (wr.setCell ⟨g, m, none⟩ (.int .i64 was)).heap.size = wr.heap.size := by simp [World.setCell]
          go_roundw
          case rel => exact ⟨some ⟨g, 0, none⟩, v.set m was, k, _, by omega, rfl, Lib.hid (by omega), by rw [List.length_set], by rw [List.length_set]; exact hvK, by rw [List.length_set]; exact hvl, Lib.hid (fun _ => ⟨g, rfl, hg, by rw [cellsI_set]; exact (HCw.out.set (by rw [cellsI_len]; exact hml) _).q q3⟩), Lib.hid ((grown_q hg2 HQ.out (by omega)).alloc _), Lib.hid ((HB.out.grown hg2 (by omega)).q q3), Lib.hid ((HR.out.keep (Below.grown (Below.refl w.heap.size wr) hg2 (Nat.le_of_lt HB.out.lt) (fun i e => by injection e with e; omega))).keep (q3.mono (by rw [hz]; exact Nat.le_of_lt HB.out.lt))), HF⟩
          case measure => simp [intOf]
        · have HF : Hid ((backs c.N c.V).isSome = false) := by rw [back1_no (a, was) v ha hp] at HS; exact Lib.hid HS
          have dn : (a == -1) = false := by simpa using ha
          by_cases h0 : 0 ≤ a
          · have d1 : decide (0 ≤ a) = true := decide_eq_true h0
            have d2 : decide (a < (v.length : Int)) = false := decide_eq_false (fun h => hp ⟨h0, h⟩)
            clear HS hp ha h0
            rw [HE.out] at b1
            go_wp2_with fail
            go_ret2
            exact ⟨_, by rw [HF.out]; rfl, HQ.out.alloc _⟩
          · have d1 : decide (0 ≤ a) = false := decide_eq_false h0
            clear HS hp ha h0
            rw [HE.out] at b1
            go_wp2_with fail
            go_ret2
            exact ⟨_, by rw [HF.out]; rfl, HQ.out.alloc _⟩

theorem note_guard : Try.prog.eqGuardType Try.prog.depth 64 = false := by kernel_rfl
theorem note_struct : Try.prog.underlying 64 = some (.struct (Try.prog.fieldsOf 64)) := by kernel_rfl
theorem note_held : Try.prog.stoodInHeld 64 = false := by kernel_rfl
theorem note_fields : (Try.prog.fieldsOf 64).toList.map (fun f => (f.name == "_", f.type, f.offset)) = [(false, 3, 0), (false, 3, 1)] := by kernel_rfl
theorem part_int (w : World) (xs : Array Value) (k : Nat) (x : Int) (h : xs[k]? = some (.int .i64 x)) : (part 3 xs k).run Try.prog w = .ok (.int .i64 x) w := run_part_plain w (by kernel_rfl) h
theorem run_eq_note (w : World) (a b : Int) : (Op.equalIn 10000 64 (.agg #[.int .i64 a, .int .i64 b]) (.agg #[.int .i64 a, .int .i64 b])).run Try.prog w = .ok true w := by
  rw [show (10000 : Nat) = 9999 + 1 from rfl, run_equalIn_struct w 9999 _ _ _ note_struct note_held]
  have hf := note_fields
  match hl : (Try.prog.fieldsOf 64).toList with
  | [] => rw [hl] at hf; simp at hf
  | [_] => rw [hl] at hf; simp at hf
  | f :: g :: h :: r => rw [hl] at hf; simp at hf
  | [f, g] =>
    rw [hl] at hf
    simp only [List.map_cons, List.map_nil, List.cons.injEq, Prod.mk.injEq, and_true] at hf
    obtain ⟨⟨n0, t0, o0⟩, n1, t1, o1⟩ := hf
    have n0' : f.name ≠ "_" := by simpa using n0
    have n1' : g.name ≠ "_" := by simpa using n1
    have e : ∀ x y : Int, (Op.equalIn 9999 3 (.int .i64 x) (.int .i64 y)).run Try.prog w = .ok (x == y) w := fun x y => run_equalIn_int w 9998 _ .i64 .i64 x y Try.underlying3
    have p0 := part_int w #[.int .i64 a, .int .i64 b] 0 a rfl
    have p2 := part_int w #[.int .i64 a, .int .i64 b] 1 b rfl
    simp only [Op.eqFields, if_pos n0', if_pos n1', t0, t1, o0, o1, Sem.run_bind, p0, Result.andThen_ok, e, beq_self_eq_true]
    simp only [Bool.not_true, Bool.false_eq_true, if_false, Sem.run_bind, p2, Result.andThen_ok, e, beq_self_eq_true]
    simp [Sem.run_pure]
theorem run_neq_note (w : World) (a b : Int) : (binOp .neq 64 (.agg #[.int .i64 a, .int .i64 b]) (.agg #[.int .i64 a, .int .i64 b])).run Try.prog w = .ok (.bool false) w := by
  rw [run_neq_struct, run_eq_note]; rfl

set_option maxRecDepth 100000 in
set_option maxHeartbeats 2000000 in
theorem same_any (c : Cells) (A D E A' D' E' : Option Addr) (n1 k1 n2 k2 n3 k3 n1' k1' n2' k2' n3' k3' : Nat) (w : World) (h1 : n1 = c.V.length) (h2 : n2 = c.N.length) (h3 : n3 = c.M.length) (h1' : n1' = c.V.length) (h2' : n2' = c.N.length) (h3' : n3' = c.M.length) (h : Rd w c A k1 D k2 E k3) (h' : Rd w c A' k1' D' k2' E' k3') (hf : Few c 1000000) :
    Calls Try.prog 21 #[.agg #[.slice A n1 k1, .slice D n2 k2, .slice E n3 k3], .agg #[.slice A' n1' k1', .slice D' n2' k2', .slice E' n3' k3']] w fun e w' => e = .returned (.bool true) ∧ Q w w' := by
  subst h1 h2 h3 h1' h2' h3'
  obtain ⟨fv, fn, fm⟩ := hf
  have qa := (Q.refl w).alloc (Obj.cells #[Value.slice A c.V.length k1, Value.slice D c.N.length k2, Value.slice E c.M.length k3] 25)
  have q0 := qa.alloc (Obj.cells #[Value.slice A' c.V.length k1', Value.slice D' c.N.length k2', Value.slice E' c.M.length k3'] 25)
  have HB := Lib.hid ((Box3.new w (Value.slice A c.V.length k1) (Value.slice D c.N.length k2) (Value.slice E c.M.length k3) 25).q ((Q.refl _).alloc (Obj.cells #[Value.slice A' c.V.length k1', Value.slice D' c.N.length k2', Value.slice E' c.M.length k3'] 25)))
  have X := Box3.new (w.alloc (Obj.cells #[Value.slice A c.V.length k1, Value.slice D c.N.length k2, Value.slice E c.M.length k3] 25)) (Value.slice A' c.V.length k1') (Value.slice D' c.N.length k2') (Value.slice E' c.M.length k3') 25
  rw [World.size_alloc] at X
  have HB' := Lib.hid X
  have HR := Lib.hid (h.q q0)
  have HR' := Lib.hid (h'.q q0)
  have hne : ((c.N.length : Int) != (c.N.length : Int)) = false := by simp
  clear h h' X qa
  go_enter Try.func21, Try.ntmps21
  go_wp2_with fail
  generalize (w.alloc (Obj.cells #[Value.slice A c.V.length k1, Value.slice D c.N.length k2, Value.slice E c.M.length k3] 25)).alloc (Obj.cells #[Value.slice A' c.V.length k1', Value.slice D' c.N.length k2', Value.slice E' c.M.length k3'] 25) = W0 at *
  go_loopw [5] (fun i wr => ∃ k : Nat, k ≤ c.N.length ∧ i = .int .i64 k ∧ Hid (∃ d, wr = W0.drewN d)) (fun i _ => c.N.length - (intOf i).toNat)
  case atStart => exact ⟨0, Nat.zero_le _, rfl, Lib.hid ⟨0, rfl⟩⟩
  case round =>
    obtain ⟨k, hk, rfl, HD⟩ := hrel
    have qr := Lib.hid (q_drewN W0 HD.out)
    have b0 := (HB.out.q qr.out).c0
    have b1 := (HB.out.q qr.out).c1
    have b2 := (HB.out.q qr.out).c2
    have b0' := (HB'.out.q qr.out).c0
    have b1' := (HB'.out.q qr.out).c1
    have b2' := (HB'.out.q qr.out).c2
    by_cases hlt : k < c.N.length
    · obtain ⟨ad, e, hb, c0, c1⟩ := (HR.out.n.q qr.out).pair_at hlt
      obtain ⟨ad', e', hb', c0', c1'⟩ := (HR'.out.n.q qr.out).pair_at hlt
      have j0 : (0 : Int) ≤ (k : Int) := Int.natCast_nonneg _
      have j1 : (k : Int) < (c.N.length : Int) := by omega
      have hnq := fun u => run_neq_note u c.N[k].1 c.N[k].2
      rw [e] at b1
      rw [e'] at b1'
      clear e e'
      go_wp2_with fail
      go_quiet (fail)
      go_wp2_with fail
      go_roundw
      case rel => exact ⟨k + 1, by omega, by go_num, Lib.hid (by obtain ⟨d, rfl⟩ := HD.out; exact ⟨_, drewN_add _ _ _⟩)⟩
      case measure => simp [intOf]; omega
    · go_wp2_with fail
      refine (ints_same _ _ _ _ _ _ c.V _ rfl rfl (HR.out.v.q qr.out) (HR'.out.v.q qr.out) fv).mono ?_
      rintro e w1 ⟨rfl, hd1⟩
      have q1 := Lib.hid (q_drewN _ hd1)
      clear b0 b1 b0' b1' hd1
      have b2 := (HB.out.q (qr.out.trans q1.out)).c2
      have b2' := (HB'.out.q (qr.out.trans q1.out)).c2
      go_wp2_with fail
      refine (ints_same _ _ _ _ _ _ c.M _ rfl rfl (HR.out.m.q (qr.out.trans q1.out)) (HR'.out.m.q (qr.out.trans q1.out)) fm).mono ?_
      rintro e w2 ⟨rfl, hd2⟩
      have q2 := Lib.hid (q_drewN _ hd2)
      clear hd2
      go_wp2_with fail
      go_ret
      exact ⟨rfl, q0.trans ((qr.out.trans q1.out).trans q2.out)⟩
end Go.Proofs.Ytodmompfnlcjpaa.Tr
