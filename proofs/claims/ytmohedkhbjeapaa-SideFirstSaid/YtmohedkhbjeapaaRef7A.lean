/-
  Contracts of the document's layer 7: Few, Same, Parts, may.
-/
import Derived.Test.YtmohedkhbjeapaaKitTg
import Derived.Test.YtmohedkhbjeapaaRefNm
import Derived.Laws.StructEq
import Derived.ChangeKeysEq
import Derived.Deep.RegionHeld
namespace Go.Proofs.Ytmohedkhbjeapaa.Ex
open Go.RowKit Kit Rw Nm

theorem node_struct : Try.prog.underlying 38 = some (.struct (Try.prog.fieldsOf 38)) := by kernel_rfl
theorem node_held : Try.prog.stoodInHeld 38 = false := by kernel_rfl
theorem node_guard : Try.prog.eqGuardType Try.prog.depth 38 = false := by kernel_rfl
theorem node_fields : (Try.prog.fieldsOf 38).toList.map (fun f => (f.name == "_", f.type, f.offset)) = [(false, 3, 0), (false, 9, 1), (false, 3, 2)] := by kernel_rfl
theorem part_string (w : World) (xs : Array Value) (k : Nat) (s : ByteArray) (h : xs[k]? = some (.string s)) : (part 9 xs k).run Try.prog w = .ok (.string s) w := run_part_plain w (by kernel_rfl) h
theorem part_int (w : World) (xs : Array Value) (k : Nat) (x : Int) (h : xs[k]? = some (.int .i64 x)) : (part 3 xs k).run Try.prog w = .ok (.int .i64 x) w := run_part_plain w (by kernel_rfl) h
theorem run_eq_node (w : World) (a c : Int) (b d : ByteArray) (x y : Int) : (Op.equalIn 10000 38 (.agg #[.int .i64 a, .string b, .int .i64 x]) (.agg #[.int .i64 c, .string d, .int .i64 y])).run Try.prog w = .ok ((a == c) && (eqS b d && (x == y))) w := by
  rw [show (10000 : Nat) = 9999 + 1 from rfl, run_equalIn_struct w 9999 _ _ _ node_struct node_held]
  have hf := node_fields
  match hl : (Try.prog.fieldsOf 38).toList with
  | [] => rw [hl] at hf; simp at hf
  | [_] => rw [hl] at hf; simp at hf
  | [_, _] => rw [hl] at hf; simp at hf
  | f :: g :: h :: i :: r => rw [hl] at hf; simp at hf
  | [f, g, h] =>
    rw [hl] at hf
    simp only [List.map_cons, List.map_nil, List.cons.injEq, Prod.mk.injEq, and_true] at hf
    obtain ⟨⟨n0, t0, o0⟩, ⟨n1, t1, o1⟩, n2, t2, o2⟩ := hf
    have n0' : f.name ≠ "_" := by simpa using n0
    have n1' : g.name ≠ "_" := by simpa using n1
    have n2' : h.name ≠ "_" := by simpa using n2
    have e : ∀ x y : ByteArray, (Op.equalIn 9999 9 (.string x) (.string y)).run Try.prog w = .ok (eqS x y) w := fun x y => run_equalIn_string w 9998 _ x y Try.underlying9
    have ei : ∀ x y : Int, (Op.equalIn 9999 3 (.int .i64 x) (.int .i64 y)).run Try.prog w = .ok (x == y) w := fun x y => run_equalIn_int w 9998 _ .i64 .i64 x y Try.underlying3
    have p0 := part_int w #[.int .i64 a, .string b, .int .i64 x] 0 a rfl
    have p1 := part_int w #[.int .i64 c, .string d, .int .i64 y] 0 c rfl
    have p2 := part_string w #[.int .i64 a, .string b, .int .i64 x] 1 b rfl
    have p3 := part_string w #[.int .i64 c, .string d, .int .i64 y] 1 d rfl
    have p4 := part_int w #[.int .i64 a, .string b, .int .i64 x] 2 x rfl
    have p5 := part_int w #[.int .i64 c, .string d, .int .i64 y] 2 y rfl
    simp only [Op.eqFields, if_pos n0', if_pos n1', if_pos n2', t0, t1, t2, o0, o1, o2, Sem.run_bind, p0, p1, Result.andThen_ok, ei]
    cases a == c
    · simp [Sem.run_pure]
    · simp only [Bool.not_true, Bool.false_eq_true, if_false, Sem.run_bind, p2, p3, Result.andThen_ok, e]
      cases eqS b d
      · simp [Sem.run_pure]
      · simp only [Bool.not_true, Bool.false_eq_true, if_false, Sem.run_bind, p4, p5, Result.andThen_ok, ei]
        cases x == y <;> simp [Sem.run_pure]
theorem run_neq_node (w : World) (x y : Tg) : (binOp .neq 38 (.agg #[.int .i64 x.1, .string x.2.1, .int .i64 x.2.2]) (.agg #[.int .i64 y.1, .string y.2.1, .int .i64 y.2.2])).run Try.prog w = .ok (.bool (!tgEq x y)) w := by
  rw [run_neq_struct, run_eq_node]; rfl
theorem run_eql_node (w : World) (x y : Tg) : (binOp .eql 38 (.agg #[.int .i64 x.1, .string x.2.1, .int .i64 x.2.2]) (.agg #[.int .i64 y.1, .string y.2.1, .int .i64 y.2.2])).run Try.prog w = .ok (.bool (tgEq x y)) w := by
  rw [run_eql_struct, run_eq_node]; rfl

def total7 : List Tg → Nat
  | [] => 0
  | t :: l => 1 + t.2.1.size + total7 l
theorem total7_next (l : List Tg) (k : Nat) (h : k < l.length) : total7 (l.take (k + 1)) = total7 (l.take k) + 1 + l[k].2.1.size := by
  rw [List.take_succ_eq_append_getElem h]
  have : ∀ (a : List Tg) (t : Tg), total7 (a ++ [t]) = total7 a + 1 + t.2.1.size := fun a t => by
    induction a with
    | nil => simp [total7]
    | cons x a ih => simp only [List.cons_append, total7, ih]; omega
  exact this _ _
theorem total7_take (l : List Tg) (k : Nat) : total7 (l.take k) ≤ total7 l := by
  induction l generalizing k with
  | nil => simp
  | cons x l ih =>
    cases k with
    | zero => simp [total7]
    | succ k => simp only [List.take_succ_cons, total7]; have := ih k; omega
theorem total7_ge (l : List Tg) : l.length ≤ total7 l := by
  induction l with
  | nil => simp
  | cons x l ih => simp only [List.length_cons, total7]; omega

set_option maxRecDepth 100000 in
set_option maxHeartbeats 1000000 in
theorem few7_any (A : Option Addr) (n c : Nat) (l : List Tg) (w : World) (hn : n = l.length) (hr : Rds w w.heap.size A (cellsG l)) (hl : l.length ≤ 140737488355328) (hz : ∀ t ∈ l, t.2.1.size ≤ 140737488355328) :
    Calls Try.prog 20 #[.slice A n c] w fun e w' => e = .returned (.bool (decide (total7 l ≤ 600))) ∧ Q w w' := by
  subst hn
  have HR := Lib.hid hr
  have HZ := Lib.hid hz
  clear hr hz
  go_enter Try.func20, Try.ntmps20
  go_wp2_with fail
  go_loopw [3, 4] (fun s i wr => ∃ (k m : Nat), k ≤ l.length ∧ i = .int .i64 k ∧ s = .int .i64 m ∧ m ≤ 600 ∧ Hid (m = total7 (l.take k)) ∧ Hid (Q w wr)) (fun _ i _ => l.length - (intOf i).toNat)
  case atStart => exact ⟨0, 0, Nat.zero_le _, rfl, rfl, by omega, Lib.hid rfl, Lib.hid (Q.refl w)⟩
  case round =>
    obtain ⟨k, m, hk, rfl, rfl, hm, HV, HQ⟩ := hrel
    by_cases hlt : k < l.length
    · obtain ⟨ad, rfl, hb, c0, c1, c2⟩ := tok_at (HR.out.q HQ.out) hlt
      have hsz := HZ.out l[k] (List.getElem_mem hlt)
      have HN := Lib.hid (total7_next l k hlt)
      have HT := Lib.hid (total7_take l (k + 1))
      generalize l[k].2.1 = x at *
      by_cases h : 600 < m + 1 + x.size
      · have HE : Hid (decide (total7 l ≤ 600) = false) := by
          unfold Hid
          have := HN.out
          have := HT.out
          have := HV.out
          exact decide_eq_false (by omega)
        have d0 : decide (600 < ((m + 1 + x.size : Nat) : Int)) = true := decide_eq_true (by omega)
        have d1 : decide (600 < (m : Int) + 1 + (x.size : Int)) = true := decide_eq_true (by omega)
        go_wp2_with fail
        go_ret
        exact ⟨by rw [HE.out]; rfl, HQ.out⟩
      · have d0 : decide (600 < ((m + 1 + x.size : Nat) : Int)) = false := decide_eq_false (by omega)
        have d1 : decide (600 < (m : Int) + 1 + (x.size : Int)) = false := decide_eq_false (by omega)
        go_wp2_with fail
        go_roundw
        case rel => exact ⟨k + 1, m + 1 + x.size, by omega, by go_num, by first | rfl | go_num, by omega, by unfold Hid; have := HN.out; have := HV.out; omega, HQ⟩
        case measure => simp [intOf]; omega
    · have HE : Hid (decide (total7 l ≤ 600) = true) := by
        unfold Hid
        have := HV.out
        rw [List.take_of_length_le (by omega)] at this
        exact decide_eq_true (by omega)
      go_wp2_with fail
      go_ret
      exact ⟨by rw [HE.out]; rfl, HQ.out⟩

/-- how many parts a node has -/
def partsN (t : Tg) : Int := if t.1 = 6 then 1 else t.2.2
theorem parts_any (k : Int) (s : ByteArray) (n : Int) (w : World) :
    Calls Try.prog 35 #[.agg #[.int .i64 k, .string s, .int .i64 n]] w fun e w' => e = .returned (.int .i64 (partsN (k, s, n))) ∧ Q w w' := by
  by_cases h : k = 6
  · subst h
    go_enter Try.func35, Try.ntmps35
    go_wp2_with fail
    go_ret
    exact ⟨rfl, (Q.refl _).alloc _⟩
  · have e : (k == 6) = false := beq_eq_false_iff_ne.2 h
    have HE : Hid (partsN (k, s, n) = n) := by unfold Hid partsN; rw [if_neg h]
    go_enter Try.func35, Try.ntmps35
    go_wp2_with fail
    go_ret
    exact ⟨by rw [HE.out]; rfl, (Q.refl _).alloc _⟩

/-- may a node be? -/
def mayN (t : Tg) : Bool :=
  if t.1 = 0 ∨ t.1 = 1 then t.2.1.toList.isEmpty && (t.2.2 == 0)
  else if t.1 = 2 then nameB 65 90 t.2.1.data.toList && (t.2.2 == 0)
  else if t.1 = 3 then nameB 97 122 t.2.1.data.toList && (decide (0 ≤ t.2.2) && decide (t.2.2 ≤ 8))
  else if t.1 = 4 ∨ t.1 = 5 then t.2.1.toList.isEmpty && (t.2.2 == 2)
  else if t.1 = 6 then nameB 97 122 t.2.1.data.toList && (decide (1 ≤ t.2.2) && decide (t.2.2 ≤ 8))
  else false

set_option maxRecDepth 100000 in
set_option maxHeartbeats 4000000 in
theorem may_any (k : Int) (s : ByteArray) (n : Int) (w : World) :
    Calls Try.prog 36 #[.agg #[.int .i64 k, .string s, .int .i64 n]] w fun e w' => e = .returned (.bool (mayN (k, s, n))) ∧ Q w w' := by
  have CC := Lib.hid (fun W : World => con_any s W)
  have CV := Lib.hid (fun W : World => var_any s W)
  have HD : Hid (mayN (k, s, n) = if k = 0 ∨ k = 1 then s.toList.isEmpty && (n == 0) else if k = 2 then nameB 65 90 s.data.toList && (n == 0) else if k = 3 then nameB 97 122 s.data.toList && (decide (0 ≤ n) && decide (n ≤ 8)) else if k = 4 ∨ k = 5 then s.toList.isEmpty && (n == 2) else if k = 6 then nameB 97 122 s.data.toList && (decide (1 ≤ n) && decide (n ≤ 8)) else false) := rfl
  generalize mayN (k, s, n) = R at *
  generalize nameB 97 122 s.data.toList = bc at *
  generalize nameB 65 90 s.data.toList = bv at *
  by_cases k0 : k = 0
  · subst k0
    have HR : Hid (R = (s.toList.isEmpty && (n == 0))) := by unfold Hid; have := HD.out; simpa using this
    clear HD
    by_cases he : s.toList = []
    · have he2 : s.toList.isEmpty = true := by rw [he]; rfl
      rw [he2, Bool.true_and] at HR
      cases hn : (n == 0)
      · rw [hn] at HR
        go_enter Try.func36, Try.ntmps36
        go_wp2_with (first | (go_at_call 38; refine (CC.out _).mono ?_; rintro e w1 ⟨rfl, rfl⟩) | (go_at_call 45; refine (CV.out _).mono ?_; rintro e w1 ⟨rfl, rfl⟩))
        go_ret
        exact ⟨by rw [HR.out]; rfl, (Q.refl _).alloc _⟩
      · rw [hn] at HR
        go_enter Try.func36, Try.ntmps36
        go_wp2_with (first | (go_at_call 38; refine (CC.out _).mono ?_; rintro e w1 ⟨rfl, rfl⟩) | (go_at_call 45; refine (CV.out _).mono ?_; rintro e w1 ⟨rfl, rfl⟩))
        go_ret
        exact ⟨by rw [HR.out]; rfl, (Q.refl _).alloc _⟩
    · have he2 : s.toList.isEmpty = false := by
        cases h : s.toList with
        | nil => exact absurd h he
        | cons x y => rfl
      rw [he2, Bool.false_and] at HR
      go_enter Try.func36, Try.ntmps36
      go_wp2_with (first | (go_at_call 38; refine (CC.out _).mono ?_; rintro e w1 ⟨rfl, rfl⟩) | (go_at_call 45; refine (CV.out _).mono ?_; rintro e w1 ⟨rfl, rfl⟩))
      go_ret
      exact ⟨by rw [HR.out]; rfl, (Q.refl _).alloc _⟩
  · have e0 : (k == 0) = false := beq_eq_false_iff_ne.2 k0
    by_cases k1 : k = 1
    · subst k1
      have HR : Hid (R = (s.toList.isEmpty && (n == 0))) := by unfold Hid; have := HD.out; simpa using this
      clear HD
      by_cases he : s.toList = []
      · have he2 : s.toList.isEmpty = true := by rw [he]; rfl
        rw [he2, Bool.true_and] at HR
        cases hn : (n == 0)
        · rw [hn] at HR
          go_enter Try.func36, Try.ntmps36
          go_wp2_with (first | (go_at_call 38; refine (CC.out _).mono ?_; rintro e w1 ⟨rfl, rfl⟩) | (go_at_call 45; refine (CV.out _).mono ?_; rintro e w1 ⟨rfl, rfl⟩))
          go_ret
          exact ⟨by rw [HR.out]; rfl, (Q.refl _).alloc _⟩
        · rw [hn] at HR
          go_enter Try.func36, Try.ntmps36
          go_wp2_with (first | (go_at_call 38; refine (CC.out _).mono ?_; rintro e w1 ⟨rfl, rfl⟩) | (go_at_call 45; refine (CV.out _).mono ?_; rintro e w1 ⟨rfl, rfl⟩))
          go_ret
          exact ⟨by rw [HR.out]; rfl, (Q.refl _).alloc _⟩
      · have he2 : s.toList.isEmpty = false := by
          cases h : s.toList with
          | nil => exact absurd h he
          | cons x y => rfl
        rw [he2, Bool.false_and] at HR
        go_enter Try.func36, Try.ntmps36
        go_wp2_with (first | (go_at_call 38; refine (CC.out _).mono ?_; rintro e w1 ⟨rfl, rfl⟩) | (go_at_call 45; refine (CV.out _).mono ?_; rintro e w1 ⟨rfl, rfl⟩))
        go_ret
        exact ⟨by rw [HR.out]; rfl, (Q.refl _).alloc _⟩
    · have e1 : (k == 1) = false := beq_eq_false_iff_ne.2 k1
      by_cases k2 : k = 2
      · subst k2
        have HR : Hid (R = (bv && (n == 0))) := by unfold Hid; have := HD.out; simpa using this
        clear HD
        cases bv
        · rw [Bool.false_and] at HR
          go_enter Try.func36, Try.ntmps36
          go_wp2_with (first | (go_at_call 38; refine (CC.out _).mono ?_; rintro e w1 ⟨rfl, rfl⟩) | (go_at_call 45; refine (CV.out _).mono ?_; rintro e w1 ⟨rfl, rfl⟩))
          go_ret
          exact ⟨by rw [HR.out]; rfl, (Q.refl _).alloc _⟩
        · rw [Bool.true_and] at HR
          cases hn : (n == 0)
          · rw [hn] at HR
            go_enter Try.func36, Try.ntmps36
            go_wp2_with (first | (go_at_call 38; refine (CC.out _).mono ?_; rintro e w1 ⟨rfl, rfl⟩) | (go_at_call 45; refine (CV.out _).mono ?_; rintro e w1 ⟨rfl, rfl⟩))
            go_ret
            exact ⟨by rw [HR.out]; rfl, (Q.refl _).alloc _⟩
          · rw [hn] at HR
            go_enter Try.func36, Try.ntmps36
            go_wp2_with (first | (go_at_call 38; refine (CC.out _).mono ?_; rintro e w1 ⟨rfl, rfl⟩) | (go_at_call 45; refine (CV.out _).mono ?_; rintro e w1 ⟨rfl, rfl⟩))
            go_ret
            exact ⟨by rw [HR.out]; rfl, (Q.refl _).alloc _⟩
      · have e2 : (k == 2) = false := beq_eq_false_iff_ne.2 k2
        by_cases k3 : k = 3
        · subst k3
          have HR : Hid (R = (bc && (decide (0 ≤ n) && decide (n ≤ 8)))) := by unfold Hid; have := HD.out; simpa using this
          clear HD
          cases bc
          · rw [Bool.false_and] at HR
            go_enter Try.func36, Try.ntmps36
            go_wp2_with (first | (go_at_call 38; refine (CC.out _).mono ?_; rintro e w1 ⟨rfl, rfl⟩) | (go_at_call 45; refine (CV.out _).mono ?_; rintro e w1 ⟨rfl, rfl⟩))
            go_ret
            exact ⟨by rw [HR.out]; rfl, (Q.refl _).alloc _⟩
          · rw [Bool.true_and] at HR
            by_cases h1 : 0 ≤ n
            · have d1 : decide (0 ≤ n) = true := decide_eq_true h1
              rw [d1, Bool.true_and] at HR
              by_cases h8 : n ≤ 8
              · have d8 : decide (n ≤ 8) = true := decide_eq_true h8
                rw [d8] at HR
                go_enter Try.func36, Try.ntmps36
                go_wp2_with (first | (go_at_call 38; refine (CC.out _).mono ?_; rintro e w1 ⟨rfl, rfl⟩) | (go_at_call 45; refine (CV.out _).mono ?_; rintro e w1 ⟨rfl, rfl⟩))
                go_ret
                exact ⟨by rw [HR.out]; rfl, (Q.refl _).alloc _⟩
              · have d8 : decide (n ≤ 8) = false := decide_eq_false h8
                rw [d8] at HR
                go_enter Try.func36, Try.ntmps36
                go_wp2_with (first | (go_at_call 38; refine (CC.out _).mono ?_; rintro e w1 ⟨rfl, rfl⟩) | (go_at_call 45; refine (CV.out _).mono ?_; rintro e w1 ⟨rfl, rfl⟩))
                go_ret
                exact ⟨by rw [HR.out]; rfl, (Q.refl _).alloc _⟩
            · have d1 : decide (0 ≤ n) = false := decide_eq_false h1
              rw [d1, Bool.false_and] at HR
              go_enter Try.func36, Try.ntmps36
              go_wp2_with (first | (go_at_call 38; refine (CC.out _).mono ?_; rintro e w1 ⟨rfl, rfl⟩) | (go_at_call 45; refine (CV.out _).mono ?_; rintro e w1 ⟨rfl, rfl⟩))
              go_ret
              exact ⟨by rw [HR.out]; rfl, (Q.refl _).alloc _⟩
        · have e3 : (k == 3) = false := beq_eq_false_iff_ne.2 k3
          by_cases k4 : k = 4
          · subst k4
            have HR : Hid (R = (s.toList.isEmpty && (n == 2))) := by unfold Hid; have := HD.out; simpa using this
            clear HD
            by_cases he : s.toList = []
            · have he2 : s.toList.isEmpty = true := by rw [he]; rfl
              rw [he2, Bool.true_and] at HR
              cases hn : (n == 2)
              · rw [hn] at HR
                go_enter Try.func36, Try.ntmps36
                go_wp2_with (first | (go_at_call 38; refine (CC.out _).mono ?_; rintro e w1 ⟨rfl, rfl⟩) | (go_at_call 45; refine (CV.out _).mono ?_; rintro e w1 ⟨rfl, rfl⟩))
                go_ret
                exact ⟨by rw [HR.out]; rfl, (Q.refl _).alloc _⟩
              · rw [hn] at HR
                go_enter Try.func36, Try.ntmps36
                go_wp2_with (first | (go_at_call 38; refine (CC.out _).mono ?_; rintro e w1 ⟨rfl, rfl⟩) | (go_at_call 45; refine (CV.out _).mono ?_; rintro e w1 ⟨rfl, rfl⟩))
                go_ret
                exact ⟨by rw [HR.out]; rfl, (Q.refl _).alloc _⟩
            · have he2 : s.toList.isEmpty = false := by
                cases h : s.toList with
                | nil => exact absurd h he
                | cons x y => rfl
              rw [he2, Bool.false_and] at HR
              go_enter Try.func36, Try.ntmps36
              go_wp2_with (first | (go_at_call 38; refine (CC.out _).mono ?_; rintro e w1 ⟨rfl, rfl⟩) | (go_at_call 45; refine (CV.out _).mono ?_; rintro e w1 ⟨rfl, rfl⟩))
              go_ret
              exact ⟨by rw [HR.out]; rfl, (Q.refl _).alloc _⟩
          · have e4 : (k == 4) = false := beq_eq_false_iff_ne.2 k4
            by_cases k5 : k = 5
            · subst k5
              have HR : Hid (R = (s.toList.isEmpty && (n == 2))) := by unfold Hid; have := HD.out; simpa using this
              clear HD
              by_cases he : s.toList = []
              · have he2 : s.toList.isEmpty = true := by rw [he]; rfl
                rw [he2, Bool.true_and] at HR
                cases hn : (n == 2)
                · rw [hn] at HR
                  go_enter Try.func36, Try.ntmps36
                  go_wp2_with (first | (go_at_call 38; refine (CC.out _).mono ?_; rintro e w1 ⟨rfl, rfl⟩) | (go_at_call 45; refine (CV.out _).mono ?_; rintro e w1 ⟨rfl, rfl⟩))
                  go_ret
                  exact ⟨by rw [HR.out]; rfl, (Q.refl _).alloc _⟩
                · rw [hn] at HR
                  go_enter Try.func36, Try.ntmps36
                  go_wp2_with (first | (go_at_call 38; refine (CC.out _).mono ?_; rintro e w1 ⟨rfl, rfl⟩) | (go_at_call 45; refine (CV.out _).mono ?_; rintro e w1 ⟨rfl, rfl⟩))
                  go_ret
                  exact ⟨by rw [HR.out]; rfl, (Q.refl _).alloc _⟩
              · have he2 : s.toList.isEmpty = false := by
                  cases h : s.toList with
                  | nil => exact absurd h he
                  | cons x y => rfl
                rw [he2, Bool.false_and] at HR
                go_enter Try.func36, Try.ntmps36
                go_wp2_with (first | (go_at_call 38; refine (CC.out _).mono ?_; rintro e w1 ⟨rfl, rfl⟩) | (go_at_call 45; refine (CV.out _).mono ?_; rintro e w1 ⟨rfl, rfl⟩))
                go_ret
                exact ⟨by rw [HR.out]; rfl, (Q.refl _).alloc _⟩
            · have e5 : (k == 5) = false := beq_eq_false_iff_ne.2 k5
              by_cases k6 : k = 6
              · subst k6
                have HR : Hid (R = (bc && (decide (1 ≤ n) && decide (n ≤ 8)))) := by unfold Hid; have := HD.out; simpa using this
                clear HD
                cases bc
                · rw [Bool.false_and] at HR
                  go_enter Try.func36, Try.ntmps36
                  go_wp2_with (first | (go_at_call 38; refine (CC.out _).mono ?_; rintro e w1 ⟨rfl, rfl⟩) | (go_at_call 45; refine (CV.out _).mono ?_; rintro e w1 ⟨rfl, rfl⟩))
                  go_ret
                  exact ⟨by rw [HR.out]; rfl, (Q.refl _).alloc _⟩
                · rw [Bool.true_and] at HR
                  by_cases h1 : 1 ≤ n
                  · have d1 : decide (1 ≤ n) = true := decide_eq_true h1
                    rw [d1, Bool.true_and] at HR
                    by_cases h8 : n ≤ 8
                    · have d8 : decide (n ≤ 8) = true := decide_eq_true h8
                      rw [d8] at HR
                      go_enter Try.func36, Try.ntmps36
                      go_wp2_with (first | (go_at_call 38; refine (CC.out _).mono ?_; rintro e w1 ⟨rfl, rfl⟩) | (go_at_call 45; refine (CV.out _).mono ?_; rintro e w1 ⟨rfl, rfl⟩))
                      go_ret
                      exact ⟨by rw [HR.out]; rfl, (Q.refl _).alloc _⟩
                    · have d8 : decide (n ≤ 8) = false := decide_eq_false h8
                      rw [d8] at HR
                      go_enter Try.func36, Try.ntmps36
                      go_wp2_with (first | (go_at_call 38; refine (CC.out _).mono ?_; rintro e w1 ⟨rfl, rfl⟩) | (go_at_call 45; refine (CV.out _).mono ?_; rintro e w1 ⟨rfl, rfl⟩))
                      go_ret
                      exact ⟨by rw [HR.out]; rfl, (Q.refl _).alloc _⟩
                  · have d1 : decide (1 ≤ n) = false := decide_eq_false h1
                    rw [d1, Bool.false_and] at HR
                    go_enter Try.func36, Try.ntmps36
                    go_wp2_with (first | (go_at_call 38; refine (CC.out _).mono ?_; rintro e w1 ⟨rfl, rfl⟩) | (go_at_call 45; refine (CV.out _).mono ?_; rintro e w1 ⟨rfl, rfl⟩))
                    go_ret
                    exact ⟨by rw [HR.out]; rfl, (Q.refl _).alloc _⟩
              · have e6 : (k == 6) = false := beq_eq_false_iff_ne.2 k6
                have HR : Hid (R = false) := by unfold Hid; have := HD.out; simpa [k0, k1, k2, k3, k4, k5, k6] using this
                clear HD
                go_enter Try.func36, Try.ntmps36
                go_wp2_with (first | (go_at_call 38; refine (CC.out _).mono ?_; rintro e w1 ⟨rfl, rfl⟩) | (go_at_call 45; refine (CV.out _).mono ?_; rintro e w1 ⟨rfl, rfl⟩))
                go_ret
                exact ⟨by rw [HR.out]; rfl, (Q.refl _).alloc _⟩
end Go.Proofs.Ytmohedkhbjeapaa.Ex
