/-
  What the proofs lean on, part 9 of 25.
-/
import Derived.Test.YtdmdcggmgipdbaaGreatDoorPd
import Derived.Test.YtdmdcggmgipdbaaGreatDoorPh
import Derived.Laws.StructEq
import Derived.ChangeKeysEq
import Derived.Deep.RegionHeld
import Derived.Laws.EntriesVeiled
namespace Go.Proofs.YtdmdcggmgipdbaaGreatDoor.Ex
open Go.RowKit Kit Rw Nm

theorem node_struct : Tryz.prog.underlying 67 = some (.struct (Tryz.prog.fieldsOf 67)) := by kernel_rfl
theorem node_held : Tryz.prog.stoodInHeld 67 = false := by kernel_rfl
theorem node_guard : Tryz.prog.eqGuardType Tryz.prog.depth 67 = false := by kernel_rfl
theorem node_fields : (Tryz.prog.fieldsOf 67).toList.map (fun f => (f.name == "_", f.type, f.offset)) = [(false, 3, 0), (false, 9, 1), (false, 3, 2)] := by kernel_rfl
theorem part_string (w : World) (xs : Array Value) (k : Nat) (s : ByteArray) (h : xs[k]? = some (.string s)) : (part 9 xs k).run Tryz.prog w = .ok (.string s) w := run_part_plain w (by kernel_rfl) h
theorem part_int (w : World) (xs : Array Value) (k : Nat) (x : Int) (h : xs[k]? = some (.int .i64 x)) : (part 3 xs k).run Tryz.prog w = .ok (.int .i64 x) w := run_part_plain w (by kernel_rfl) h
theorem run_eq_node (w : World) (a c : Int) (b d : ByteArray) (x y : Int) : (Op.equalIn 10000 67 (.agg #[.int .i64 a, .string b, .int .i64 x]) (.agg #[.int .i64 c, .string d, .int .i64 y])).run Tryz.prog w = .ok ((a == c) && (eqS b d && (x == y))) w := by
  rw [show (10000 : Nat) = 9999 + 1 from rfl, run_equalIn_struct w 9999 _ _ _ node_struct node_held]
  have hf := node_fields
  match hl : (Tryz.prog.fieldsOf 67).toList with
  | [] => rw [hl] at hf; simp at hf
  | [_] => rw [hl] at hf; simp at hf
  | [_, _] => rw [hl] at hf; simp at hf
  | f :: g :: h :: i :: r => rw [hl] at hf; simp at hf
  | [f, g, h] =>
    rw [hl] at hf
    simp only [List.map_cons, List.map_nil, List.cons.injEq, Prod.mk.injEq, and_true] at hf
    obtain ⟨⟨n0, t0, o0⟩, ⟨n1, t1, o1⟩, n2, t2, o2⟩ := hf
    have n0' : f.name ≠ "_" := by simpa using n0
    have n1' : g.name ≠ "_" := by simpa using n1
    have n2' : h.name ≠ "_" := by simpa using n2
    have e : ∀ x y : ByteArray, (Op.equalIn 9999 9 (.string x) (.string y)).run Tryz.prog w = .ok (eqS x y) w := fun x y => run_equalIn_string w 9998 _ x y Tryz.underlying9
    have ei : ∀ x y : Int, (Op.equalIn 9999 3 (.int .i64 x) (.int .i64 y)).run Tryz.prog w = .ok (x == y) w := fun x y => run_equalIn_int w 9998 _ .i64 .i64 x y Tryz.underlying3
    have p0 := part_int w #[.int .i64 a, .string b, .int .i64 x] 0 a rfl
    have p1 := part_int w #[.int .i64 c, .string d, .int .i64 y] 0 c rfl
    have p2 := part_string w #[.int .i64 a, .string b, .int .i64 x] 1 b rfl
    have p3 := part_string w #[.int .i64 c, .string d, .int .i64 y] 1 d rfl
    have p4 := part_int w #[.int .i64 a, .string b, .int .i64 x] 2 x rfl
    have p5 := part_int w #[.int .i64 c, .string d, .int .i64 y] 2 y rfl
    simp only [Op.eqFields, if_pos n0', if_pos n1', if_pos n2', t0, t1, t2, o0, o1, o2, Sem.run_bind, p0, p1, Result.andThen_ok, ei]
    cases a == c
    · simp [Sem.run_pure]
    · simp only [Bool.not_true, Bool.false_eq_true, if_false, Sem.run_bind, p2, p3, Result.andThen_ok, e]
      cases eqS b d
      · simp [Sem.run_pure]
      · simp only [Bool.not_true, Bool.false_eq_true, if_false, Sem.run_bind, p4, p5, Result.andThen_ok, ei]
        cases x == y <;> simp [Sem.run_pure]
theorem run_neq_node (w : World) (x y : Tg) : (binOp .neq 67 (.agg #[.int .i64 x.1, .string x.2.1, .int .i64 x.2.2]) (.agg #[.int .i64 y.1, .string y.2.1, .int .i64 y.2.2])).run Tryz.prog w = .ok (.bool (!tgEq x y)) w := by
  rw [run_neq_struct, run_eq_node]; rfl
def total7 : List Tg → Nat
  | [] => 0
  | t :: l => 1 + t.2.1.size + total7 l
theorem total7_next (l : List Tg) (k : Nat) (h : k < l.length) : total7 (l.take (k + 1)) = total7 (l.take k) + 1 + l[k].2.1.size := by
  rw [List.take_succ_eq_append_getElem h]
  have : ∀ (a : List Tg) (t : Tg), total7 (a ++ [t]) = total7 a + 1 + t.2.1.size := fun a t => by
    induction a with
    | nil => simp [total7]
    | cons x a ih => simp only [List.cons_append, total7, ih]; omega
  exact this _ _
theorem total7_take (l : List Tg) (k : Nat) : total7 (l.take k) ≤ total7 l := by
  induction l generalizing k with
  | nil => simp
  | cons x l ih =>
    cases k with
    | zero => simp [total7]
    | succ k => simp only [List.take_succ_cons, total7]; have := ih k; omega
theorem total7_ge (l : List Tg) : l.length ≤ total7 l := by
  induction l with
  | nil => simp
  | cons x l ih => simp only [List.length_cons, total7]; omega

set_option maxRecDepth 100000 in
set_option maxHeartbeats 1000000 in
theorem few7_any (A : Option Addr) (n c : Nat) (l : List Tg) (w : World) (hn : n = l.length) (hr : Rds w w.heap.size A (cellsG l)) (hl : l.length ≤ 140737488355328) (hz : ∀ t ∈ l, t.2.1.size ≤ 140737488355328) :
    Calls Tryz.prog 18 #[.slice A n c] w fun e w' => e = .returned (.bool (decide (total7 l ≤ 600))) ∧ Q w w' := by
  subst hn
  have HR := Lib.hid hr
  have HZ := Lib.hid hz
  clear hr hz
  go_enter Tryz.func18, Tryz.ntmps18
  go_wp2_with fail
  go_loopw [3, 4] (fun s i wr => ∃ (k m : Nat), k ≤ l.length ∧ i = .int .i64 k ∧ s = .int .i64 m ∧ m ≤ 600 ∧ Hid (m = total7 (l.take k)) ∧ Hid (Q w wr)) (fun _ i _ => l.length - (intOf i).toNat)
  case atStart => exact ⟨0, 0, Nat.zero_le _, rfl, rfl, by omega, Lib.hid rfl, Lib.hid (Q.refl w)⟩
  case round =>
    obtain ⟨k, m, hk, rfl, rfl, hm, HV, HQ⟩ := hrel
    by_cases hlt : k < l.length
    · obtain ⟨ad, rfl, hb, c0, c1, c2⟩ := tok_at (HR.out.q HQ.out) hlt
      have hsz := HZ.out l[k] (List.getElem_mem hlt)
      have HN := Lib.hid (total7_next l k hlt)
      have HT := Lib.hid (total7_take l (k + 1))
      generalize l[k].2.1 = x at *
      by_cases h : 600 < m + 1 + x.size
      · have HE : Hid (decide (total7 l ≤ 600) = false) := by
          unfold Hid
          have := HN.out
          have := HT.out
          have := HV.out
          exact decide_eq_false (by omega)
        have d0 : decide (600 < ((m + 1 + x.size : Nat) : Int)) = true := decide_eq_true (by omega)
        have d1 : decide (600 < (m : Int) + 1 + (x.size : Int)) = true := decide_eq_true (by omega)
        go_wp2_with fail
        go_ret
        exact ⟨by rw [HE.out]; rfl, HQ.out⟩
      · have d0 : decide (600 < ((m + 1 + x.size : Nat) : Int)) = false := decide_eq_false (by omega)
        have d1 : decide (600 < (m : Int) + 1 + (x.size : Int)) = false := decide_eq_false (by omega)
        go_wp2_with fail
        go_roundw
        case rel => exact ⟨k + 1, m + 1 + x.size, by omega, by go_num, by first | rfl | go_num, by omega, by unfold Hid; have := HN.out; have := HV.out; omega, HQ⟩
        case measure => simp [intOf]; omega
    · have HE : Hid (decide (total7 l ≤ 600) = true) := by
        unfold Hid
        have := HV.out
        rw [List.take_of_length_le (by omega)] at this
        exact decide_eq_true (by omega)
      go_wp2_with fail
      go_ret
      exact ⟨by rw [HE.out]; rfl, HQ.out⟩

/-- how many parts a node has -/
def partsN (t : Tg) : Int := if t.1 = 6 then 1 else t.2.2
theorem parts_any (k : Int) (s : ByteArray) (n : Int) (w : World) :
    Calls Tryz.prog 44 #[.agg #[.int .i64 k, .string s, .int .i64 n]] w fun e w' => e = .returned (.int .i64 (partsN (k, s, n))) ∧ Q w w' := by
  by_cases h : k = 6
  · subst h
    go_enter Tryz.func44, Tryz.ntmps44
    go_wp2_with fail
    go_ret
    exact ⟨rfl, (Q.refl _).alloc _⟩
  · have e : (k == 6) = false := beq_eq_false_iff_ne.2 h
    have HE : Hid (partsN (k, s, n) = n) := by unfold Hid partsN; rw [if_neg h]
    go_enter Tryz.func44, Tryz.ntmps44
    go_wp2_with fail
    go_ret
    exact ⟨by rw [HE.out]; rfl, (Q.refl _).alloc _⟩

/-- may a node be? -/
def mayN (t : Tg) : Bool :=
  if t.1 = 0 ∨ t.1 = 1 then t.2.1.toList.isEmpty && (t.2.2 == 0)
  else if t.1 = 2 then nameB 65 90 t.2.1.data.toList && (t.2.2 == 0)
  else if t.1 = 3 then nameB 97 122 t.2.1.data.toList && (decide (0 ≤ t.2.2) && decide (t.2.2 ≤ 8))
  else if t.1 = 4 ∨ t.1 = 5 then t.2.1.toList.isEmpty && (t.2.2 == 2)
  else if t.1 = 6 then nameB 97 122 t.2.1.data.toList && (decide (1 ≤ t.2.2) && decide (t.2.2 ≤ 8))
  else false

set_option maxRecDepth 100000 in
set_option maxHeartbeats 4000000 in
theorem may_any (k : Int) (s : ByteArray) (n : Int) (w : World) :
    Calls Tryz.prog 43 #[.agg #[.int .i64 k, .string s, .int .i64 n]] w fun e w' => e = .returned (.bool (mayN (k, s, n))) ∧ Q w w' := by
  have CC := Lib.hid (fun W : World => con_any s W)
  have CV := Lib.hid (fun W : World => var_any s W)
  have HD : Hid (mayN (k, s, n) = if k = 0 ∨ k = 1 then s.toList.isEmpty && (n == 0) else if k = 2 then nameB 65 90 s.data.toList && (n == 0) else if k = 3 then nameB 97 122 s.data.toList && (decide (0 ≤ n) && decide (n ≤ 8)) else if k = 4 ∨ k = 5 then s.toList.isEmpty && (n == 2) else if k = 6 then nameB 97 122 s.data.toList && (decide (1 ≤ n) && decide (n ≤ 8)) else false) := rfl
  generalize mayN (k, s, n) = R at *
  generalize nameB 97 122 s.data.toList = bc at *
  generalize nameB 65 90 s.data.toList = bv at *
  by_cases k0 : k = 0
  · subst k0
    have HR : Hid (R = (s.toList.isEmpty && (n == 0))) := by unfold Hid; have := HD.out; simpa using this
    clear HD
    by_cases he : s.toList = []
    · have he2 : s.toList.isEmpty = true := by rw [he]; rfl
      rw [he2, Bool.true_and] at HR
      cases hn : (n == 0)
      · rw [hn] at HR
        go_enter Tryz.func43, Tryz.ntmps43
        go_wp2_with (first | (go_at_call 56; refine (CC.out _).mono ?_; rintro e w1 ⟨rfl, rfl⟩) | (go_at_call 31; refine (CV.out _).mono ?_; rintro e w1 ⟨rfl, rfl⟩))
        go_ret
        exact ⟨by rw [HR.out]; rfl, (Q.refl _).alloc _⟩
      · rw [hn] at HR
        go_enter Tryz.func43, Tryz.ntmps43
        go_wp2_with (first | (go_at_call 56; refine (CC.out _).mono ?_; rintro e w1 ⟨rfl, rfl⟩) | (go_at_call 31; refine (CV.out _).mono ?_; rintro e w1 ⟨rfl, rfl⟩))
        go_ret
        exact ⟨by rw [HR.out]; rfl, (Q.refl _).alloc _⟩
    · have he2 : s.toList.isEmpty = false := by
        cases h : s.toList with
        | nil => exact absurd h he
        | cons x y => rfl
      rw [he2, Bool.false_and] at HR
      go_enter Tryz.func43, Tryz.ntmps43
      go_wp2_with (first | (go_at_call 56; refine (CC.out _).mono ?_; rintro e w1 ⟨rfl, rfl⟩) | (go_at_call 31; refine (CV.out _).mono ?_; rintro e w1 ⟨rfl, rfl⟩))
      go_ret
      exact ⟨by rw [HR.out]; rfl, (Q.refl _).alloc _⟩
  · have e0 : (k == 0) = false := beq_eq_false_iff_ne.2 k0
    by_cases k1 : k = 1
    · subst k1
      have HR : Hid (R = (s.toList.isEmpty && (n == 0))) := by unfold Hid; have := HD.out; simpa using this
      clear HD
      by_cases he : s.toList = []
      · have he2 : s.toList.isEmpty = true := by rw [he]; rfl
        rw [he2, Bool.true_and] at HR
        cases hn : (n == 0)
        · rw [hn] at HR
          go_enter Tryz.func43, Tryz.ntmps43
          go_wp2_with (first | (go_at_call 56; refine (CC.out _).mono ?_; rintro e w1 ⟨rfl, rfl⟩) | (go_at_call 31; refine (CV.out _).mono ?_; rintro e w1 ⟨rfl, rfl⟩))
          go_ret
          exact ⟨by rw [HR.out]; rfl, (Q.refl _).alloc _⟩
        · rw [hn] at HR
          go_enter Tryz.func43, Tryz.ntmps43
          go_wp2_with (first | (go_at_call 56; refine (CC.out _).mono ?_; rintro e w1 ⟨rfl, rfl⟩) | (go_at_call 31; refine (CV.out _).mono ?_; rintro e w1 ⟨rfl, rfl⟩))
          go_ret
          exact ⟨by rw [HR.out]; rfl, (Q.refl _).alloc _⟩
      · have he2 : s.toList.isEmpty = false := by
          cases h : s.toList with
          | nil => exact absurd h he
          | cons x y => rfl
        rw [he2, Bool.false_and] at HR
        go_enter Tryz.func43, Tryz.ntmps43
        go_wp2_with (first | (go_at_call 56; refine (CC.out _).mono ?_; rintro e w1 ⟨rfl, rfl⟩) | (go_at_call 31; refine (CV.out _).mono ?_; rintro e w1 ⟨rfl, rfl⟩))
        go_ret
        exact ⟨by rw [HR.out]; rfl, (Q.refl _).alloc _⟩
    · have e1 : (k == 1) = false := beq_eq_false_iff_ne.2 k1
      by_cases k2 : k = 2
      · subst k2
        have HR : Hid (R = (bv && (n == 0))) := by unfold Hid; have := HD.out; simpa using this
        clear HD
        cases bv
        · rw [Bool.false_and] at HR
          go_enter Tryz.func43, Tryz.ntmps43
          go_wp2_with (first | (go_at_call 56; refine (CC.out _).mono ?_; rintro e w1 ⟨rfl, rfl⟩) | (go_at_call 31; refine (CV.out _).mono ?_; rintro e w1 ⟨rfl, rfl⟩))
          go_ret
          exact ⟨by rw [HR.out]; rfl, (Q.refl _).alloc _⟩
        · rw [Bool.true_and] at HR
          cases hn : (n == 0)
          · rw [hn] at HR
            go_enter Tryz.func43, Tryz.ntmps43
            go_wp2_with (first | (go_at_call 56; refine (CC.out _).mono ?_; rintro e w1 ⟨rfl, rfl⟩) | (go_at_call 31; refine (CV.out _).mono ?_; rintro e w1 ⟨rfl, rfl⟩))
            go_ret
            exact ⟨by rw [HR.out]; rfl, (Q.refl _).alloc _⟩
          · rw [hn] at HR
            go_enter Tryz.func43, Tryz.ntmps43
            go_wp2_with (first | (go_at_call 56; refine (CC.out _).mono ?_; rintro e w1 ⟨rfl, rfl⟩) | (go_at_call 31; refine (CV.out _).mono ?_; rintro e w1 ⟨rfl, rfl⟩))
            go_ret
            exact ⟨by rw [HR.out]; rfl, (Q.refl _).alloc _⟩
      · have e2 : (k == 2) = false := beq_eq_false_iff_ne.2 k2
        by_cases k3 : k = 3
        · subst k3
          have HR : Hid (R = (bc && (decide (0 ≤ n) && decide (n ≤ 8)))) := by unfold Hid; have := HD.out; simpa using this
          clear HD
          cases bc
          · rw [Bool.false_and] at HR
            go_enter Tryz.func43, Tryz.ntmps43
            go_wp2_with (first | (go_at_call 56; refine (CC.out _).mono ?_; rintro e w1 ⟨rfl, rfl⟩) | (go_at_call 31; refine (CV.out _).mono ?_; rintro e w1 ⟨rfl, rfl⟩))
            go_ret
            exact ⟨by rw [HR.out]; rfl, (Q.refl _).alloc _⟩
          · rw [Bool.true_and] at HR
            by_cases h1 : 0 ≤ n
            · have d1 : decide (0 ≤ n) = true := decide_eq_true h1
              rw [d1, Bool.true_and] at HR
              by_cases h8 : n ≤ 8
              · have d8 : decide (n ≤ 8) = true := decide_eq_true h8
                rw [d8] at HR
                go_enter Tryz.func43, Tryz.ntmps43
                go_wp2_with (first | (go_at_call 56; refine (CC.out _).mono ?_; rintro e w1 ⟨rfl, rfl⟩) | (go_at_call 31; refine (CV.out _).mono ?_; rintro e w1 ⟨rfl, rfl⟩))
                go_ret
                exact ⟨by rw [HR.out]; rfl, (Q.refl _).alloc _⟩
              · have d8 : decide (n ≤ 8) = false := decide_eq_false h8
                rw [d8] at HR
                go_enter Tryz.func43, Tryz.ntmps43
                go_wp2_with (first | (go_at_call 56; refine (CC.out _).mono ?_; rintro e w1 ⟨rfl, rfl⟩) | (go_at_call 31; refine (CV.out _).mono ?_; rintro e w1 ⟨rfl, rfl⟩))
                go_ret
                exact ⟨by rw [HR.out]; rfl, (Q.refl _).alloc _⟩
            · have d1 : decide (0 ≤ n) = false := decide_eq_false h1
              rw [d1, Bool.false_and] at HR
              go_enter Tryz.func43, Tryz.ntmps43
              go_wp2_with (first | (go_at_call 56; refine (CC.out _).mono ?_; rintro e w1 ⟨rfl, rfl⟩) | (go_at_call 31; refine (CV.out _).mono ?_; rintro e w1 ⟨rfl, rfl⟩))
              go_ret
              exact ⟨by rw [HR.out]; rfl, (Q.refl _).alloc _⟩
        · have e3 : (k == 3) = false := beq_eq_false_iff_ne.2 k3
          by_cases k4 : k = 4
          · subst k4
            have HR : Hid (R = (s.toList.isEmpty && (n == 2))) := by unfold Hid; have := HD.out; simpa using this
            clear HD
            by_cases he : s.toList = []
            · have he2 : s.toList.isEmpty = true := by rw [he]; rfl
              rw [he2, Bool.true_and] at HR
              cases hn : (n == 2)
              · rw [hn] at HR
                go_enter Tryz.func43, Tryz.ntmps43
                go_wp2_with (first | (go_at_call 56; refine (CC.out _).mono ?_; rintro e w1 ⟨rfl, rfl⟩) | (go_at_call 31; refine (CV.out _).mono ?_; rintro e w1 ⟨rfl, rfl⟩))
                go_ret
                exact ⟨by rw [HR.out]; rfl, (Q.refl _).alloc _⟩
              · rw [hn] at HR
                go_enter Tryz.func43, Tryz.ntmps43
                go_wp2_with (first | (go_at_call 56; refine (CC.out _).mono ?_; rintro e w1 ⟨rfl, rfl⟩) | (go_at_call 31; refine (CV.out _).mono ?_; rintro e w1 ⟨rfl, rfl⟩))
                go_ret
                exact ⟨by rw [HR.out]; rfl, (Q.refl _).alloc _⟩
            · have he2 : s.toList.isEmpty = false := by
                cases h : s.toList with
                | nil => exact absurd h he
                | cons x y => rfl
              rw [he2, Bool.false_and] at HR
              go_enter Tryz.func43, Tryz.ntmps43
              go_wp2_with (first | (go_at_call 56; refine (CC.out _).mono ?_; rintro e w1 ⟨rfl, rfl⟩) | (go_at_call 31; refine (CV.out _).mono ?_; rintro e w1 ⟨rfl, rfl⟩))
              go_ret
              exact ⟨by rw [HR.out]; rfl, (Q.refl _).alloc _⟩
          · have e4 : (k == 4) = false := beq_eq_false_iff_ne.2 k4
            by_cases k5 : k = 5
            · subst k5
              have HR : Hid (R = (s.toList.isEmpty && (n == 2))) := by unfold Hid; have := HD.out; simpa using this
              clear HD
              by_cases he : s.toList = []
              · have he2 : s.toList.isEmpty = true := by rw [he]; rfl
                rw [he2, Bool.true_and] at HR
                cases hn : (n == 2)
                · rw [hn] at HR
                  go_enter Tryz.func43, Tryz.ntmps43
                  go_wp2_with (first | (go_at_call 56; refine (CC.out _).mono ?_; rintro e w1 ⟨rfl, rfl⟩) | (go_at_call 31; refine (CV.out _).mono ?_; rintro e w1 ⟨rfl, rfl⟩))
                  go_ret
                  exact ⟨by rw [HR.out]; rfl, (Q.refl _).alloc _⟩
                · rw [hn] at HR
                  go_enter Tryz.func43, Tryz.ntmps43
                  go_wp2_with (first | (go_at_call 56; refine (CC.out _).mono ?_; rintro e w1 ⟨rfl, rfl⟩) | (go_at_call 31; refine (CV.out _).mono ?_; rintro e w1 ⟨rfl, rfl⟩))
                  go_ret
                  exact ⟨by rw [HR.out]; rfl, (Q.refl _).alloc _⟩
              · have he2 : s.toList.isEmpty = false := by
                  cases h : s.toList with
                  | nil => exact absurd h he
                  | cons x y => rfl
                rw [he2, Bool.false_and] at HR
                go_enter Tryz.func43, Tryz.ntmps43
                go_wp2_with (first | (go_at_call 56; refine (CC.out _).mono ?_; rintro e w1 ⟨rfl, rfl⟩) | (go_at_call 31; refine (CV.out _).mono ?_; rintro e w1 ⟨rfl, rfl⟩))
                go_ret
                exact ⟨by rw [HR.out]; rfl, (Q.refl _).alloc _⟩
            · have e5 : (k == 5) = false := beq_eq_false_iff_ne.2 k5
              by_cases k6 : k = 6
              · subst k6
                have HR : Hid (R = (bc && (decide (1 ≤ n) && decide (n ≤ 8)))) := by unfold Hid; have := HD.out; simpa using this
                clear HD
                cases bc
                · rw [Bool.false_and] at HR
                  go_enter Tryz.func43, Tryz.ntmps43
                  go_wp2_with (first | (go_at_call 56; refine (CC.out _).mono ?_; rintro e w1 ⟨rfl, rfl⟩) | (go_at_call 31; refine (CV.out _).mono ?_; rintro e w1 ⟨rfl, rfl⟩))
                  go_ret
                  exact ⟨by rw [HR.out]; rfl, (Q.refl _).alloc _⟩
                · rw [Bool.true_and] at HR
                  by_cases h1 : 1 ≤ n
                  · have d1 : decide (1 ≤ n) = true := decide_eq_true h1
                    rw [d1, Bool.true_and] at HR
                    by_cases h8 : n ≤ 8
                    · have d8 : decide (n ≤ 8) = true := decide_eq_true h8
                      rw [d8] at HR
                      go_enter Tryz.func43, Tryz.ntmps43
                      go_wp2_with (first | (go_at_call 56; refine (CC.out _).mono ?_; rintro e w1 ⟨rfl, rfl⟩) | (go_at_call 31; refine (CV.out _).mono ?_; rintro e w1 ⟨rfl, rfl⟩))
                      go_ret
                      exact ⟨by rw [HR.out]; rfl, (Q.refl _).alloc _⟩
                    · have d8 : decide (n ≤ 8) = false := decide_eq_false h8
                      rw [d8] at HR
                      go_enter Tryz.func43, Tryz.ntmps43
                      go_wp2_with (first | (go_at_call 56; refine (CC.out _).mono ?_; rintro e w1 ⟨rfl, rfl⟩) | (go_at_call 31; refine (CV.out _).mono ?_; rintro e w1 ⟨rfl, rfl⟩))
                      go_ret
                      exact ⟨by rw [HR.out]; rfl, (Q.refl _).alloc _⟩
                  · have d1 : decide (1 ≤ n) = false := decide_eq_false h1
                    rw [d1, Bool.false_and] at HR
                    go_enter Tryz.func43, Tryz.ntmps43
                    go_wp2_with (first | (go_at_call 56; refine (CC.out _).mono ?_; rintro e w1 ⟨rfl, rfl⟩) | (go_at_call 31; refine (CV.out _).mono ?_; rintro e w1 ⟨rfl, rfl⟩))
                    go_ret
                    exact ⟨by rw [HR.out]; rfl, (Q.refl _).alloc _⟩
              · have e6 : (k == 6) = false := beq_eq_false_iff_ne.2 k6
                have HR : Hid (R = false) := by unfold Hid; have := HD.out; simpa [k0, k1, k2, k3, k4, k5, k6] using this
                clear HD
                go_enter Tryz.func43, Tryz.ntmps43
                go_wp2_with (first | (go_at_call 56; refine (CC.out _).mono ?_; rintro e w1 ⟨rfl, rfl⟩) | (go_at_call 31; refine (CV.out _).mono ?_; rintro e w1 ⟨rfl, rfl⟩))
                go_ret
                exact ⟨by rw [HR.out]; rfl, (Q.refl _).alloc _⟩
end Go.Proofs.YtdmdcggmgipdbaaGreatDoor.Ex

namespace Go.Proofs.YtdmdcggmgipdbaaGreatDoor.Ex
open Go.RowKit Kit Rw Nm

inductive Ex where
  | mk (n : Tg) (ks : List Ex) : Ex
mutual
def Ex.nodes : Ex → List Tg
  | .mk n ks => nodesL ks ++ [n]
def nodesL : List Ex → List Tg
  | [] => []
  | e :: r => e.nodes ++ nodesL r
end
def Ex.root : Ex → Tg
  | .mk n _ => n
def Ex.kids : Ex → List Ex
  | .mk _ ks => ks
def Ex.size (e : Ex) : Nat := e.nodes.length
theorem size_pos (e : Ex) : 0 < e.size := by cases e; simp [Ex.size, Ex.nodes]
theorem nodesL_app (a b : List Ex) : nodesL (a ++ b) = nodesL a ++ nodesL b := by
  induction a with
  | nil => rfl
  | cons e a ih => simp only [List.cons_append, nodesL, ih, List.append_assoc]
/-- how many parts, as a length -/
def np (t : Tg) : Nat := (partsN t).toNat
mutual
def Ex.wf : Ex → Prop
  | .mk n ks => ks.length = np n ∧ wfL ks
def wfL : List Ex → Prop
  | [] => True
  | e :: r => e.wf ∧ wfL r
end
theorem wfL_iff (l : List Ex) : wfL l ↔ ∀ e ∈ l, e.wf := by
  induction l with
  | nil => simp [wfL]
  | cons e l ih => simp [wfL, ih]

def push (st : List Ex) (n : Tg) : Option (List Ex) := if np n ≤ st.length then some (.mk n (st.take (np n)).reverse :: st.drop (np n)) else none
def runS (st : List Ex) : List Tg → Option (List Ex)
  | [] => some st
  | n :: l => (push st n).bind fun st' => runS st' l
theorem run_app (st : List Ex) (a b : List Tg) : runS st (a ++ b) = (runS st a).bind fun st' => runS st' b := by
  induction a generalizing st with
  | nil => rfl
  | cons n a ih =>
    simp only [List.cons_append, runS]
    cases push st n with
    | none => rfl
    | some st' => exact ih st'
theorem run_snoc (st : List Ex) (a : List Tg) (n : Tg) : runS st (a ++ [n]) = (runS st a).bind fun st' => push st' n := by
  rw [run_app]
  congr 1
  funext st'
  simp only [runS]
  cases push st' n <;> rfl

mutual
/-- the nodes of a tree put it on the stack -/
theorem run_tree : ∀ (e : Ex) (st : List Ex), e.wf → runS st e.nodes = some (e :: st)
  | .mk n ks, st, h => by
    obtain ⟨h1, h2⟩ := h
    show runS st (nodesL ks ++ [n]) = _
    rw [run_snoc, run_trees ks st h2]
    show push (ks.reverse ++ st) n = _
    have e : np n ≤ (ks.reverse ++ st).length := by simp; omega
    unfold push
    rw [if_pos e, List.take_append_of_le_length (by simp; omega), List.take_of_length_le (by simp; omega), List.reverse_reverse, List.drop_append_of_le_length (by simp; omega), List.drop_of_length_le (by simp; omega)]
    rfl
theorem run_trees : ∀ (ks : List Ex) (st : List Ex), wfL ks → runS st (nodesL ks) = some (ks.reverse ++ st)
  | [], st, _ => rfl
  | e :: r, st, h => by
    obtain ⟨h1, h2⟩ := h
    show runS st (e.nodes ++ nodesL r) = _
    rw [run_app, run_tree e st h1]
    show runS (e :: st) (nodesL r) = _
    rw [run_trees r (e :: st) h2]
    simp
end
theorem push_some {st st' : List Ex} {n : Tg} (h : push st n = some st') : np n ≤ st.length ∧ st' = .mk n (st.take (np n)).reverse :: st.drop (np n) := by
  unfold push at h
  split at h
  · rename_i hn; injection h with h; exact ⟨hn, h.symm⟩
  · cases h
/-- what is on the stack are trees, whose nodes, from below, are what was put -/
theorem run_inv (l : List Tg) : ∀ (st0 st : List Ex), wfL st0 → runS st0 l = some st → wfL st ∧ nodesL st.reverse = nodesL st0.reverse ++ l := by
  induction l with
  | nil => intro st0 st h0 h; injection h with h; subst h; exact ⟨h0, by simp⟩
  | cons n l ih =>
    intro st0 st h0 h
    simp only [runS] at h
    cases hp : push st0 n with
    | none => rw [hp] at h; cases h
    | some st1 =>
      rw [hp] at h
      obtain ⟨hn, rfl⟩ := push_some hp
      have hw : wfL (Ex.mk n (st0.take (np n)).reverse :: st0.drop (np n)) := by
        rw [wfL_iff] at h0
        refine ⟨⟨by simp; omega, (wfL_iff _).2 fun e he => h0 e (List.mem_of_mem_take (List.mem_reverse.1 he))⟩, (wfL_iff _).2 fun e he => h0 e (List.mem_of_mem_drop he)⟩
      obtain ⟨h1, h2⟩ := ih _ st hw h
      refine ⟨h1, ?_⟩
      rw [h2]
      simp only [List.reverse_cons, nodesL_app, nodesL, Ex.nodes, List.append_nil]
      have e : st0.reverse = (st0.drop (np n)).reverse ++ (st0.take (np n)).reverse := by rw [← List.reverse_append, List.take_append_drop]
      rw [e, nodesL_app]
      simp [List.append_assoc]
theorem run_nodes {l : List Tg} {st : List Ex} (h : runS [] l = some st) : wfL st ∧ nodesL st.reverse = l := by
  have := run_inv l [] st (by trivial) h
  simpa [nodesL] using this
/-- the top tree's nodes are the last ones; without them the rest stands on the stack -/
theorem run_pop {l : List Tg} {c : Ex} {st : List Ex} (h : runS [] l = some (c :: st)) : c.wf ∧ c.size ≤ l.length ∧ runS [] (l.take (l.length - c.size)) = some st ∧ l.drop (l.length - c.size) = c.nodes := by
  obtain ⟨h1, h2⟩ := run_nodes h
  obtain ⟨hc, hs⟩ := h1
  simp only [List.reverse_cons, nodesL_app, nodesL, List.append_nil] at h2
  have hl : l.length = (nodesL st.reverse).length + c.size := by rw [← h2, List.length_append]; rfl
  have e : l.length - c.size = (nodesL st.reverse).length := by omega
  refine ⟨hc, by omega, ?_, ?_⟩
  · rw [e, ← h2, List.take_append_of_le_length (Nat.le_refl _), List.take_length, run_trees _ _ ((wfL_iff _).2 fun x hx => (wfL_iff _).1 hs x (List.mem_reverse.1 hx))]
    simp
  · rw [e, ← h2, List.drop_append_of_le_length (Nat.le_refl _), List.drop_length]; simp
/-- what stands on the stack behind the first j nodes -/
theorem run_take {l : List Tg} {st : List Ex} (h : runS [] l = some st) (j : Nat) : ∃ st', runS [] (l.take j) = some st' := by
  rw [← List.take_append_drop j l, run_app] at h
  cases hp : runS [] (l.take j) with
  | none => rw [hp] at h; cases h
  | some st' => exact ⟨st', rfl⟩
theorem run_next {l : List Tg} {j : Nat} (hj : j < l.length) {st : List Ex} (h : runS [] (l.take j) = some st) {st' : List Ex} (h' : runS [] (l.take (j + 1)) = some st') :
    np l[j] ≤ st.length ∧ st' = .mk l[j] (st.take (np l[j])).reverse :: st.drop (np l[j]) := by
  rw [List.take_succ_eq_append_getElem hj, run_snoc, h] at h'
  exact push_some h'
/-- the tree that ends at a node -/
def treeAt (l : List Tg) (j : Nat) : Option Ex := (runS [] (l.take (j + 1))).bind List.head?
def startOf (l : List Tg) (j : Nat) : Nat := match treeAt l j with
  | some c => j + 1 - c.size
  | none => 0
theorem start_of {l : List Tg} {j : Nat} {c : Ex} {st : List Ex} (h : runS [] (l.take (j + 1)) = some (c :: st)) : startOf l j = j + 1 - c.size := by
  unfold startOf treeAt; rw [h]; rfl
/-- one part back: from behind it to where it begins -/
theorem back_one {l : List Tg} {p : Nat} (hp : p ≤ l.length) {c : Ex} {st : List Ex} (h : runS [] (l.take p) = some (c :: st)) :
    0 < p ∧ c.size ≤ p ∧ startOf l (p - 1) = p - c.size ∧ runS [] (l.take (p - c.size)) = some st ∧ treeAt l (p - 1) = some c := by
  have hlen : (l.take p).length = p := by rw [List.length_take]; omega
  obtain ⟨_, h2, h3, _⟩ := run_pop h
  rw [hlen] at h2 h3
  have hs := size_pos c
  have e : p - 1 + 1 = p := by omega
  refine ⟨by omega, h2, ?_, ?_, ?_⟩
  · have := start_of (l := l) (j := p - 1) (c := c) (st := st) (by rw [e]; exact h)
    rw [this, e]
  · rw [List.take_take, Nat.min_eq_left (by omega)] at h3
    exact h3
  · unfold treeAt; rw [e, h]; rfl
end Go.Proofs.YtdmdcggmgipdbaaGreatDoor.Ex

namespace Go.Proofs.YtdmdcggmgipdbaaGreatDoor.Ex
open Go.RowKit Kit Rw Nm

def cellsI (l : List Int) : List Value := l.map (Value.int .i64)
theorem cellsI_len (l : List Int) : (cellsI l).length = l.length := by simp [cellsI]
theorem cellsI_one (l : List Int) : ∀ u ∈ cellsI l, u.oneCell' = true := fun u hu => by
  obtain ⟨x, _, rfl⟩ := List.mem_map.1 hu; rfl
theorem cellsI_at {l : List Int} {k : Nat} (h : k < l.length) : (cellsI l)[k]? = some (.int .i64 l[k]) := by simp [cellsI, h]
theorem cellsI_append (a b : List Int) : cellsI (a ++ b) = cellsI a ++ cellsI b := by simp [cellsI]
theorem intInfo : (Tryz.prog.info? 3).map (fun i => (i.zero, i.size, i.bytes)) = some (some (.int .i64 0), 1, 8) := by kernel_rfl
/-- where each node's expression begins -/
def startsL (l : List Tg) (n : Nat) : List Int := (List.range n).map fun j => (startOf l j : Int)
theorem startsL_len (l : List Tg) (n : Nat) : (startsL l n).length = n := by simp [startsL]
theorem startsL_at (l : List Tg) (n j : Nat) (h : j < n) : (startsL l n)[j]'(by rw [startsL_len]; exact h) = (startOf l j : Int) := by simp [startsL]
theorem startsL_next (l : List Tg) (n : Nat) : startsL l (n + 1) = startsL l n ++ [(startOf l n : Int)] := by simp [startsL, List.range_succ]
theorem own_int {w : World} {base : Nat} {v : Value} {n : Nat} {l : List Int} (h : w.ownsRow base 3 1 v n (cellsI l)) {k : Nat} (hn : n = l.length) (hk : k < l.length) :
    ∃ g c, v = .slice (some ⟨g, 0, none⟩) n c ∧ w.cell? ⟨g, k, none⟩ = some (.int .i64 l[k]) := by
  have h2 := h
  obtain ⟨hl, ⟨rfl, h0⟩ | ⟨g, cap, cur, rfl, hg, hh, hc, _⟩⟩ := h
  · omega
  · exact ⟨g, cap, rfl, ((OwnC.of_row h2).2 k _ (cellsI_at hk)).1⟩
/-- a node loaded whole, its parts counted -/
theorem parts_nat {t : Tg} (h : mayN t = true) : partsN t = (np t : Int) ∧ np t ≤ 8 := by
  unfold np
  have : 0 ≤ partsN t ∧ partsN t ≤ 8 := by
    obtain ⟨k, s, n⟩ := t
    unfold mayN at h
    unfold partsN
    simp only at h ⊢
    split at h
    · simp only [Bool.and_eq_true, beq_iff_eq] at h
      split <;> omega
    · split at h
      · simp only [Bool.and_eq_true, beq_iff_eq] at h
        split <;> omega
      · split at h
        · simp only [Bool.and_eq_true, decide_eq_true_eq] at h
          split <;> omega
        · split at h
          · simp only [Bool.and_eq_true, beq_iff_eq] at h
            split <;> omega
          · split at h
            · simp only [Bool.and_eq_true, decide_eq_true_eq] at h
              split <;> omega
            · cases h
  omega

set_option maxRecDepth 100000 in
set_option maxHeartbeats 4000000 in
theorem starts_any (A : Option Addr) (n c : Nat) (l : List Tg) (st : List Ex) (w : World) (hn : n = l.length) (hr : Rds w w.heap.size A (cellsG l)) (hl : l.length ≤ 1000) (hm : ∀ t ∈ l, mayN t = true) (hs : runS [] l = some st) :
    Calls Tryz.prog 52 #[.slice A n c] w fun e w' => ∃ B k, e = .returned (.slice B l.length k) ∧ l.length ≤ k ∧ Rds w' w'.heap.size B (cellsI (startsL l l.length)) ∧ Q w w' := by
  subst hn
  obtain ⟨i0, hi, hz0, hz1, hz2⟩ := info_parts intInfo
  have Hi := Lib.hid hi
  have Hz0 := Lib.hid hz0
  have Hz1 := Lib.hid hz1
  have Hz2 := Lib.hid hz2
  clear hi hz0 hz1 hz2
  have HR := Lib.hid hr
  have HM := Lib.hid hm
  have HS := Lib.hid hs
  clear hr hm hs
  go_enter Tryz.func52, Tryz.ntmps52
  go_wp2_with fail
  go_loopw [3, 4] (fun out i wr => ∃ (k : Nat) (v : Value), k ≤ l.length ∧ i = .int .i64 k ∧ v = out ∧ Hid (wr.ownsRow w.heap.size 3 1 v k (cellsI (startsL l k))) ∧ Hid (Q w wr)) (fun _ i _ => l.length - (intOf i).toNat)
  case atStart => exact ⟨0, _, Nat.zero_le _, rfl, rfl, Lib.hid (own_nil w _ _ _), Lib.hid (Q.refl w)⟩
  case round =>
    obtain ⟨k, v, hk, rfl, rfl, HO, HQ⟩ := hrel
    by_cases hlt : k < l.length
    · obtain ⟨hp, hp8⟩ := parts_nat (HM.out l[k] (List.getElem_mem hlt))
      obtain ⟨sk, hsk⟩ := run_take HS.out k
      obtain ⟨sn, hsn⟩ := run_take HS.out (k + 1)
      obtain ⟨hnp, hnx⟩ := run_next hlt hsk hsn
      have HSK := Lib.hid hsk
      have HSN : Hid (startOf l k = k + 1 - (Ex.mk l[k] (sk.take (np l[k])).reverse).size) := start_of (by rw [hsn, hnx])
      have HNX : Hid (runS [] (l.take (k + 1)) = some (.mk l[k] (sk.take (np l[k])).reverse :: sk.drop (np l[k]))) := by unfold Hid; rw [hsn, hnx]
      clear hsn hnx hsk
      have CP : Hid (∀ W : World, Calls Tryz.prog 44 #[.agg #[.int .i64 l[k].1, .string l[k].2.1, .int .i64 l[k].2.2]] W fun e w' => e = .returned (.int .i64 (np l[k] : Int)) ∧ Q W w') := fun W => by
        have := parts_any l[k].1 l[k].2.1 l[k].2.2 W
        rw [show partsN (l[k].1, l[k].2.1, l[k].2.2) = (np l[k] : Int) from hp] at this
        exact this
      clear hp
      go_wp2_with fail
      go_loopw [5, 6] (fun at_ i wr2 => ∃ (j p : Nat), j ≤ np l[k] ∧ p ≤ k ∧ i = .int .i64 j ∧ at_ = .int .i64 p ∧ Hid (runS [] (l.take p) = some (sk.drop j)) ∧ Hid (wr2.ownsRow w.heap.size 3 1 v k (cellsI (startsL l k))) ∧ Hid (Q w wr2)) (fun _ i _ => np l[k] - (intOf i).toNat)
      case atStart => exact ⟨0, k, Nat.zero_le _, Nat.le_refl _, rfl, rfl, by simpa using HSK, HO, HQ⟩
      case round =>
        clear HO HQ
        obtain ⟨j, p, hj, hpk, rfl, rfl, HP, HO, HQ⟩ := hrel
        obtain ⟨ad, rfl, hb, c0, c1, c2⟩ := tok_at (HR.out.q HQ.out) hlt
        by_cases hjl : j < np l[k]
        · have dj : decide ((j : Int) < (np l[k] : Int)) = true := decide_eq_true (by omega)
          have hd : sk.drop j = (sk[j]'(by omega)) :: sk.drop (j + 1) := List.drop_eq_getElem_cons (by omega)
          have HP2 := HP.out
          rw [hd] at HP2
          obtain ⟨hp0, hsz, hst, hnx, _⟩ := back_one (by omega) HP2
          clear HP2 hd
          obtain ⟨p', rfl⟩ : ∃ p', p = p' + 1 := ⟨p - 1, by omega⟩
          rw [Nat.add_sub_cancel] at hst
          obtain ⟨g, c', rfl, hcell⟩ := own_int (k := p') HO.out (startsL_len l k).symm (by rw [startsL_len]; omega)
          rw [startsL_at l k p' (by omega), hst] at hcell
          have HP' : Hid (runS [] (l.take (p' + 1 - (sk[j]'(by omega)).size)) = some (sk.drop (j + 1))) := hnx
          have hq : p' + 1 - (sk[j]'(by omega)).size ≤ p' := by have := size_pos (sk[j]'(by omega)); omega
          generalize p' + 1 - (sk[j]'(by omega)).size = q at *
          clear hst hnx HP hsz hp0
          go_wp2_with (go_at_call 44; refine (CP.out _).mono ?_; rintro e w3 ⟨rfl, q3⟩; have hcell3 := (q3.cell (p := ⟨g, p', none⟩) (by have := HO.out.lt g rfl; exact this.2)).trans hcell)
          go_roundw
          case rel => exact ⟨j + 1, q, by omega, by omega, by go_num, rfl, HP', Lib.hid (row_kept HO.out q3 (Nat.le_refl _)), Lib.hid (HQ.out.trans q3)⟩
          case measure => simp [intOf]; omega
        · have dj : decide ((j : Int) < (np l[k] : Int)) = false := decide_eq_false (by omega)
          have hpe : p = startOf l k := by
            obtain rfl : j = np l[k] := by omega
            have hl1 : (l.take (k + 1)).length = k + 1 := by rw [List.length_take]; omega
            obtain ⟨_, h2, h3, _⟩ := run_pop HNX.out
            rw [hl1] at h2 h3
            rw [List.take_take, Nat.min_eq_left (by omega)] at h3
            have e1 := (run_nodes HP.out).2
            have e2 := (run_nodes h3).2
            rw [e1] at e2
            have e3 := congrArg List.length e2
            rw [List.length_take, List.length_take] at e3
            rw [HSN.out]
            omega
          subst hpe
          have HO2 := Lib.hid (startsL_next l k)
          generalize hx : startOf l k = x at *
          have hfew : k ≤ 1000 := by omega
          clear HSN HP hx
          go_wp2_with (first
            | (go_at_call 44; refine (CP.out _).mono ?_; rintro e w3 ⟨rfl, q3⟩; have HQ3 := Lib.hid ((HQ.out.trans q3).alloc (Obj.cells #[.int .i64 (x : Int)] 3)); have Ho := Lib.hid (row_kept (row_kept HO.out q3 (Nat.le_refl _)) ((Q.refl w3).alloc (Obj.cells #[.int .i64 (x : Int)] 3)) (Nat.le_refl _)); have Hs : Hid (Src (w3.alloc (Obj.cells #[.int .i64 (x : Int)] 3)) (some ⟨w3.heap.size, 0, none⟩) [.int .i64 (x : Int)]) := src_alloc w3 _ _ _)
            | (at_builtin; refine wpList_append_src _ rfl (.tmp 28) (.tmp 30) _ rfl w.heap.size 3 i0 _ 1 8 Tryz.underlying24 Hi.out Hz0.out Hz1.out Hz2.out rfl (by omega) v k (cellsI (startsL l k)) rfl Ho.out (some ⟨w3.heap.size, 0, none⟩) 1 1 [.int .i64 (x : Int)] rfl rfl Hs.out (by simp [Value.oneCell']) (by unfold maxLen; omega) (by omega) HQ3.out.size ?_; intro v' w' own' gr' _; have Own := Lib.hid own'; have HQ' : Hid (Q w w') := Below.grown HQ3.out gr' HQ3.out.size (fun i e => (HO.out.lt i e).1); clear own' gr'))
          go_roundw
          case rel => exact ⟨k + 1, v', by omega, by go_num, rfl, by rw [HO2.out, cellsI_append]; exact Own, HQ'⟩
          case measure => simp [intOf]; omega
    · obtain ⟨A', c', rfl, hc, hR⟩ := own_read HO.out
      obtain rfl : k = l.length := by omega
      have HRd := Lib.hid hR
      clear hR
      go_wp2_with fail
      go_ret
      exact ⟨A', c', rfl, hc, HRd.out, HQ.out⟩
end Go.Proofs.YtdmdcggmgipdbaaGreatDoor.Ex

namespace Go.Proofs.YtdmdcggmgipdbaaGreatDoor.Ex
open Go.RowKit Kit Rw Nm

/-- places of trees, one by one, all ahead of a place -/
structure Ends (l : List Tg) (at_ : Nat) (cs : List Ex) (B : List Nat) : Prop where
  len : B.length = cs.length
  each : ∀ i (h : i < B.length) (h' : i < cs.length), B[i] < at_ ∧ treeAt l B[i] = some cs[i]
theorem Ends.nil (l : List Tg) (a : Nat) : Ends l a [] [] := ⟨rfl, fun i h => absurd h (by simp)⟩
theorem Ends.snoc {l : List Tg} {a : Nat} {cs : List Ex} {B : List Nat} (h : Ends l a cs B) {e : Nat} {c : Ex} (he : e < a) (ht : treeAt l e = some c) : Ends l a (cs ++ [c]) (B ++ [e]) := by
  refine ⟨by simp [h.len], fun i hi hi' => ?_⟩
  by_cases hb : i < B.length
  · rw [List.getElem_append_left hb, List.getElem_append_left (by rw [← h.len]; exact hb)]
    exact h.each i hb (by rw [← h.len]; exact hb)
  · have hi2 : i = B.length := by simp at hi; omega
    subst hi2
    rw [List.getElem_append_right (Nat.le_refl _), List.getElem_append_right (by rw [h.len]; exact Nat.le_refl _)]
    simp
    exact ⟨he, ht⟩
theorem Ends.rev {l : List Tg} {a : Nat} {cs : List Ex} {B : List Nat} (h : Ends l a cs B) : Ends l a cs.reverse B.reverse := by
  refine ⟨by simp [h.len], fun i hi hi' => ?_⟩
  simp only [List.length_reverse] at hi hi'
  rw [List.getElem_reverse, List.getElem_reverse]
  have e : cs.length - 1 - i = B.length - 1 - i := by rw [h.len]
  have := h.each (B.length - 1 - i) (by omega) (by rw [← h.len]; omega)
  simp only [e]
  exact this
def cellsN (l : List Nat) : List Value := cellsI (l.map fun n : Nat => (n : Int))
theorem cellsN_len (l : List Nat) : (cellsN l).length = l.length := by simp [cellsN, cellsI]
theorem cellsN_at {l : List Nat} {k : Nat} (h : k < l.length) : (cellsN l)[k]? = some (.int .i64 (l[k] : Int)) := by simp [cellsN, cellsI, h]
theorem cellsN_append (a b : List Nat) : cellsN (a ++ b) = cellsN a ++ cellsN b := by simp [cellsN, cellsI]
theorem int_at {w : World} {B : Nat} {A : Option Addr} {l : List Int} (h : Rds w B A (cellsI l)) {k : Nat} (hk : k < l.length) :
    ∃ ad, A = some ad ∧ ad.block < B ∧ w.cell? (ad.add k) = some (.int .i64 l[k]) := by
  obtain ⟨ad, e, hlt, hc⟩ := h (by rw [cellsI_len]; omega)
  exact ⟨ad, e, hlt, hc k _ (cellsI_at hk)⟩
theorem nat_at {w : World} {B : Nat} {A : Option Addr} {l : List Nat} (h : Rds w B A (cellsN l)) {k : Nat} (hk : k < l.length) :
    ∃ ad, A = some ad ∧ ad.block < B ∧ w.cell? (ad.add k) = some (.int .i64 (l[k] : Int)) := by
  obtain ⟨ad, e, hlt, hc⟩ := h (by rw [cellsN_len]; omega)
  exact ⟨ad, e, hlt, hc k _ (cellsN_at hk)⟩

set_option maxRecDepth 100000 in
set_option maxHeartbeats 4000000 in
theorem kids_any (A S : Option Addr) (n c m d : Nat) (l : List Tg) (st : List Ex) (a : Nat) (sk : List Ex) (w : World) (hn : n = l.length) (hm : m = l.length) (hr : Rds w w.heap.size A (cellsG l)) (hS : Rds w w.heap.size S (cellsI (startsL l l.length)))
    (hl : l.length ≤ 1000) (hmay : ∀ t ∈ l, mayN t = true) (hs : runS [] l = some st) (ha : a < l.length) (hsk : runS [] (l.take a) = some sk) :
    Calls Tryz.prog 53 #[.slice A n c, .slice S m d, .int .i64 (a : Int)] w fun e w' => ∃ B k K, e = .returned (.slice B (np l[a]) k) ∧ np l[a] ≤ k ∧ Rds w' w'.heap.size B (cellsN K) ∧ Ends l a (sk.take (np l[a])).reverse K ∧ Q w w' := by
  subst hn hm
  obtain ⟨i0, hi, hz0, hz1, hz2⟩ := info_parts intInfo
  have Hi := Lib.hid hi
  have Hz0 := Lib.hid hz0
  have Hz1 := Lib.hid hz1
  have Hz2 := Lib.hid hz2
  clear hi hz0 hz1 hz2
  have HR := Lib.hid hr
  have HSR := Lib.hid hS
  obtain ⟨hp, hp8⟩ := parts_nat (hmay l[a] (List.getElem_mem ha))
  obtain ⟨sn, hsn⟩ := run_take hs (a + 1)
  obtain ⟨hnp, _⟩ := run_next ha hsk hsn
  have HSK := Lib.hid hsk
  have CP : Hid (∀ W : World, Calls Tryz.prog 44 #[.agg #[.int .i64 l[a].1, .string l[a].2.1, .int .i64 l[a].2.2]] W fun e w' => e = .returned (.int .i64 (np l[a] : Int)) ∧ Q W w') := fun W => by
    have := parts_any l[a].1 l[a].2.1 l[a].2.2 W
    rw [show partsN (l[a].1, l[a].2.1, l[a].2.2) = (np l[a] : Int) from hp] at this
    exact this
  clear hr hS hmay hs hsk hsn hp
  go_enter Tryz.func53, Tryz.ntmps53
  go_wp2_with fail
  go_loopw [7, 8, 9] (fun back en i wr => ∃ (j p : Nat) (v : Value) (B : List Nat), j ≤ np l[a] ∧ p ≤ a ∧ i = .int .i64 j ∧ en = .int .i64 ((p : Int) - 1) ∧ v = back ∧ Hid (runS [] (l.take p) = some (sk.drop j)) ∧ Hid (Ends l a (sk.take j) B) ∧ Hid (wr.ownsRow w.heap.size 3 1 v j (cellsN B)) ∧ Hid (Q w wr)) (fun _ _ i _ => np l[a] - (intOf i).toNat)
  case atStart => exact ⟨0, a, _, [], Nat.zero_le _, Nat.le_refl _, rfl, by go_num, rfl, by simpa using HSK, Lib.hid (Ends.nil l a), Lib.hid (own_nil w _ _ _), Lib.hid (Q.refl w)⟩
  case round =>
    obtain ⟨j, p, v, B, hj, hpa, rfl, rfl, rfl, HP, HE, HO, HQ⟩ := hrel
    obtain ⟨ad, rfl, hb, c0, c1, c2⟩ := tok_at (HR.out.q HQ.out) ha
    by_cases hjl : j < np l[a]
    · have dj : decide ((j : Int) < (np l[a] : Int)) = true := decide_eq_true (by omega)
      have hd : sk.drop j = (sk[j]'(by omega)) :: sk.drop (j + 1) := List.drop_eq_getElem_cons (by omega)
      have HP2 := HP.out
      rw [hd] at HP2
      obtain ⟨hp0, hsz, hst, hnx, htr⟩ := back_one (by omega) HP2
      have hq : p - (sk[j]'(by omega)).size ≤ a := by omega
      have hsz0 := size_pos (sk[j]'(by omega))
      clear HP2 hd
      obtain ⟨p', rfl⟩ : ∃ p', p = p' + 1 := ⟨p - 1, by omega⟩
      rw [Nat.add_sub_cancel] at hst htr
      have HE' : Hid (Ends l a (sk.take (j + 1)) (B ++ [p'])) := by
        unfold Hid
        rw [List.take_succ_eq_append_getElem (by omega)]
        exact HE.out.snoc (by omega) htr
      obtain ⟨sd, hsd, hbs, hcell⟩ := int_at (HSR.out.q HQ.out) (k := p') (by rw [startsL_len]; omega)
      subst hsd
      rw [startsL_at l _ p' (by omega), hst] at hcell
      have HP' : Hid (runS [] (l.take (p' + 1 - (sk[j]'(by omega)).size)) = some (sk.drop (j + 1))) := hnx
      have HST := Lib.hid hst
      generalize p' + 1 - (sk[j]'(by omega)).size = q at *
      clear hst hnx HP hsz hp0 htr hsz0
      have e1 : ((p' + 1 : Nat) : Int) - 1 = (p' : Int) := by omega
      have hj8 : j ≤ 8 := by omega
      go_wp2_with (first
        | (go_at_call 44; refine (CP.out _).mono ?_; rintro e w3 ⟨rfl, q3⟩; have hcell3 := (q3.cell (p := sd.add p') (by rw [add_block]; exact hbs)).trans hcell; have hcell4 := (((Q.refl w3).alloc (Obj.cells #[.int .i64 (p' : Int)] 3)).cell (p := sd.add p') (by rw [add_block]; exact Nat.lt_of_lt_of_le hbs q3.size)).trans hcell3; have HQ3 := Lib.hid ((HQ.out.trans q3).alloc (Obj.cells #[.int .i64 (p' : Int)] 3)); have Ho := Lib.hid (row_kept (row_kept HO.out q3 (Nat.le_refl _)) ((Q.refl w3).alloc (Obj.cells #[.int .i64 (p' : Int)] 3)) (Nat.le_refl _)); have Hs : Hid (Src (w3.alloc (Obj.cells #[.int .i64 (p' : Int)] 3)) (some ⟨w3.heap.size, 0, none⟩) [.int .i64 (p' : Int)]) := src_alloc w3 _ _ _)
        | (at_builtin; refine wpList_append_src _ rfl (.tmp 23) (.tmp 25) _ rfl w.heap.size 3 i0 _ 1 8 Tryz.underlying24 Hi.out Hz0.out Hz1.out Hz2.out rfl (by omega) v j (cellsN B) rfl Ho.out (some ⟨w3.heap.size, 0, none⟩) 1 1 [.int .i64 (p' : Int)] rfl rfl Hs.out (by simp [Value.oneCell']) (by unfold maxLen; omega) (by omega) HQ3.out.size ?_; intro v' w' own' gr' _; have Own := Lib.hid own'; have HQ' : Hid (Q w w') := Below.grown HQ3.out gr' HQ3.out.size (fun i e => (Ho.out.lt i e).1); obtain ⟨sd', e', _, hcell5⟩ := int_at (HSR.out.q HQ'.out) (k := p') (by rw [startsL_len]; omega); injection e' with e'; subst e'; rw [startsL_at l _ p' (by omega), HST.out] at hcell5; clear own' gr'))
      go_roundw
      case rel => exact ⟨j + 1, q, v', B ++ [p'], by omega, by omega, by go_num, by go_num, rfl, HP', HE', by rw [cellsN_append]; exact Own, HQ'⟩
      case measure => simp [intOf]; omega
    · have dj : decide ((j : Int) < (np l[a] : Int)) = false := decide_eq_false (by omega)
      obtain rfl : j = np l[a] := by omega
      have hBl : B.length = np l[a] := by rw [HE.out.len, List.length_take]; omega
      have HBl := Lib.hid hBl
      obtain ⟨B0, c0', rfl, hc0, hR0⟩ := own_read HO.out
      have HB := Lib.hid hR0
      clear hR0 hBl HP
      go_wp2_with (go_at_call 44; refine (CP.out _).mono ?_; rintro e w3 ⟨rfl, q3⟩)
      have HBR := Lib.hid (HB.out.q q3)
      have HQ3 := Lib.hid (HQ.out.trans q3)
      clear q3 HQ HB HO
      go_loopw [10, 11] (fun out i wr => ∃ (r d : Nat) (v : Value), r + d = np l[a] ∧ i = .int .i64 ((r : Int) - 1) ∧ v = out ∧ Hid (wr.ownsRow w3.heap.size 3 1 v d (cellsN (B.drop r).reverse)) ∧ Hid (Q w3 wr)) (fun _ i _ => (intOf i + 1).toNat)
      case atStart => exact ⟨np l[a], 0, _, by omega, by go_num, rfl, by rw [List.drop_of_length_le (by rw [HBl.out]; exact Nat.le_refl _)]; exact Lib.hid (own_nil w3 _ _ _), Lib.hid (Q.refl w3)⟩
      case round =>
        obtain ⟨r, d2, v, hrd, rfl, rfl, HO, HQ⟩ := hrel
        by_cases hr0 : 0 < r
        · obtain ⟨r', rfl⟩ : ∃ r', r = r' + 1 := ⟨r - 1, by omega⟩
          have e1 : ((r' + 1 : Nat) : Int) - 1 = (r' : Int) := by omega
          have hrl : r' < B.length := by rw [HBl.out]; omega
          obtain ⟨bd, rfl, hbb, hbc⟩ := nat_at (HBR.out.q HQ.out) hrl
          have HD : Hid ((B.drop r').reverse = (B.drop (r' + 1)).reverse ++ [B[r']]) := by
            unfold Hid; rw [List.drop_eq_getElem_cons hrl, List.reverse_cons]
          generalize B[r'] = x at *
          have HQ4 := Lib.hid (HQ.out.alloc (Obj.cells #[.int .i64 (x : Int)] 3))
          have Ho := Lib.hid (row_kept HO.out ((Q.refl wr).alloc (Obj.cells #[.int .i64 (x : Int)] 3)) (Nat.le_refl _))
          have Hs : Hid (Src (wr.alloc (Obj.cells #[.int .i64 (x : Int)] 3)) (some ⟨wr.heap.size, 0, none⟩) [.int .i64 (x : Int)]) := src_alloc wr _ _ _
          rw [e1]
          go_wp2_with (at_builtin; refine wpList_append_src _ rfl (.tmp 39) (.tmp 44) _ rfl w3.heap.size 3 i0 _ 1 8 Tryz.underlying24 Hi.out Hz0.out Hz1.out Hz2.out rfl (by omega) v d2 (cellsN (B.drop (r' + 1)).reverse) rfl Ho.out (some ⟨wr.heap.size, 0, none⟩) 1 1 [.int .i64 (x : Int)] rfl rfl Hs.out (by simp [Value.oneCell']) (by unfold maxLen; omega) (by omega) HQ4.out.size ?_; intro v' w' own' gr' _; have Own := Lib.hid own'; have HQ' : Hid (Q w3 w') := Below.grown HQ4.out gr' HQ4.out.size (fun i e => (HO.out.lt i e).1); clear own' gr')
          go_roundw
          case rel => exact ⟨r', d2 + 1, v', by omega, by go_num, rfl, by rw [HD.out, cellsN_append]; exact Own, HQ'⟩
          case measure => simp [intOf]
        · obtain rfl : r = 0 := by omega
          have e1 : (((0 : Nat) : Int)) - 1 = -1 := by omega
          obtain rfl : d2 = np l[a] := by omega
          obtain ⟨A', c', rfl, hc, hR⟩ := own_read HO.out
          have HRd := Lib.hid hR
          clear hR
          rw [e1]
          go_wp2_with fail
          go_ret
          exact ⟨A', c', B.reverse, rfl, hc, HRd.out, HE.out.rev, HQ3.out.trans HQ.out⟩
end Go.Proofs.YtdmdcggmgipdbaaGreatDoor.Ex

namespace Go.Proofs.YtdmdcggmgipdbaaGreatDoor.Ex
open Go.RowKit Kit Rw
open Go.Proofs.YtdmdcggmgipdbaaGreatDoor.Sg (Sig findI)
theorem own_new8 (w : World) (cs : List Value) (t : TypeId) : OwnC (w.alloc (.cells cs.toArray t)) w.heap.size cs :=
  ⟨by simp, fun j v hv => ⟨by have := (src_alloc w cs t (0, 0)) (by have := (List.getElem?_eq_some_iff.1 hv).1; omega); obtain ⟨ad, e, h⟩ := this; injection e with e; subst e; have := h j v hv; rwa [add_zero_head] at this, World.frozen?_alloc_at _ _ _ _ rfl⟩⟩
def turnB (s v : UInt8) : UInt8 := if v = 43 then s else if v = 45 ∧ s = 76 then 82 else if v = 45 ∧ s = 82 then 76 else 66
def argsOf (L : List Sig) (n : Tg) : ByteArray := (L[(findI n.2.1 L 0).toNat]?.map (·.2)).getD ⟨#[]⟩
/-- is a constructor, or a projection, known? -/
def knownB (L : List Sig) (n : Tg) : Bool :=
  if findI n.2.1 L 0 < 0 then false else if n.1 = 3 then decide (((argsOf L n).size : Int) = n.2.2) else decide (n.2.2 ≤ ((argsOf L n).size : Int))
/-- how the part k of a node varies -/
def varyB (L : List Sig) (n : Tg) (k : Nat) : UInt8 :=
  if n.1 = 4 ∨ n.1 = 5 then 43 else if knownB L n = false then 61 else if n.1 = 6 then (argsOf L n).data.toList[(n.2.2 - 1).toNat]?.getD 0 else (argsOf L n).data.toList[k]?.getD 0
mutual
def Ex.sides (L : List Sig) (s : UInt8) : Ex → List UInt8
  | .mk n ks => sidesL L n s 0 ks ++ [s]
def sidesL (L : List Sig) (n : Tg) (s : UInt8) (k : Nat) : List Ex → List UInt8
  | [] => []
  | e :: r => e.sides L (turnB s (varyB L n k)) ++ sidesL L n s (k + 1) r
end
/-- the sides of a forest's nodes, of its trees' sides (the last tree first) -/
def fs (L : List Sig) : List Ex → List UInt8 → List UInt8
  | e :: r, t :: T => fs L r T ++ e.sides L t
  | _, _ => []
end Go.Proofs.YtdmdcggmgipdbaaGreatDoor.Ex
