/-
  Contracts of Same: the program's (slices.Equal) and the document's.
-/
import Derived.Test.YtanbhfhhomopfaaDoorLexE
import Derived.Laws.StructEq
import Derived.ChangeKeysEq
namespace Go.Proofs.YtanbhfhhomopfaaDoor.Lx
open Go.RowKit Kit Rw

/-- two texts are the same -/
def eqS (a b : ByteArray) : Bool := a.toList == b.toList
theorem eqS_iff (a b : ByteArray) : eqS a b = true ↔ a = b := by
  unfold eqS
  rw [beq_iff_eq, ByteArray.toList_eq, ByteArray.toList_eq]
  exact ⟨fun h => ByteArray.ext (Array.toList_inj.mp h), fun h => by rw [h]⟩
def tgEq (a b : Tg) : Bool := (a.1 == b.1) && (eqS a.2.1 b.2.1 && (a.2.2 == b.2.2))
theorem tgEq_iff (a b : Tg) : tgEq a b = true ↔ a = b := by
  unfold tgEq
  rw [Bool.and_eq_true, Bool.and_eq_true, eqS_iff, beq_iff_eq, beq_iff_eq, Prod.ext_iff, Prod.ext_iff]
def sameG : List Tg → List Tg → Bool
  | a :: l, b :: m => tgEq a b && sameG l m
  | _, _ => true
def sameB (l m : List Tg) : Bool := decide (l.length = m.length) && sameG l m
theorem sameG_at (l m : List Tg) (k : Nat) (h : k < l.length) (h' : k < m.length) : sameG (l.drop k) (m.drop k) = (tgEq l[k] m[k] && sameG (l.drop (k + 1)) (m.drop (k + 1))) := by
  rw [List.drop_eq_getElem_cons h, List.drop_eq_getElem_cons h']; rfl
theorem sameG_end (l m : List Tg) (k : Nat) (h : l.length ≤ k) : sameG (l.drop k) (m.drop k) = true := by
  rw [List.drop_eq_nil_of_le h]; rfl
theorem sameG_iff : ∀ (l m : List Tg), l.length = m.length → (sameG l m = true ↔ l = m)
  | [], [], _ => by simp [sameG]
  | a :: l, b :: m, h => by
    rw [sameG, Bool.and_eq_true, tgEq_iff, sameG_iff l m (by simpa using h)]
    simp
theorem sameB_iff (l m : List Tg) : sameB l m = true ↔ l = m := by
  unfold sameB
  rw [Bool.and_eq_true, decide_eq_true_eq]
  constructor
  · rintro ⟨h, g⟩; exact (sameG_iff l m h).1 g
  · rintro rfl; exact ⟨rfl, (sameG_iff l l rfl).2 rfl⟩

theorem tok_struct : Tryd.prog.underlying 37 = some (.struct (Tryd.prog.fieldsOf 37)) := by kernel_rfl
theorem tok_held : Tryd.prog.stoodInHeld 37 = false := by kernel_rfl
theorem tok_guard : Tryd.prog.eqGuardType Tryd.prog.depth 37 = false := by kernel_rfl
theorem tok_fields : (Tryd.prog.fieldsOf 37).toList.map (fun f => (f.name == "_", f.type, f.offset)) = [(false, 3, 0), (false, 9, 1), (false, 3, 2)] := by kernel_rfl
theorem part_string (w : World) (xs : Array Value) (k : Nat) (s : ByteArray) (h : xs[k]? = some (.string s)) : (part 9 xs k).run Tryd.prog w = .ok (.string s) w := run_part_plain w (by kernel_rfl) h
theorem part_int (w : World) (xs : Array Value) (k : Nat) (x : Int) (h : xs[k]? = some (.int .i64 x)) : (part 3 xs k).run Tryd.prog w = .ok (.int .i64 x) w := run_part_plain w (by kernel_rfl) h
theorem run_eq_tok (w : World) (a c : Int) (b d : ByteArray) (x y : Int) : (Op.equalIn 10000 37 (.agg #[.int .i64 a, .string b, .int .i64 x]) (.agg #[.int .i64 c, .string d, .int .i64 y])).run Tryd.prog w = .ok ((a == c) && (eqS b d && (x == y))) w := by
  rw [show (10000 : Nat) = 9999 + 1 from rfl, run_equalIn_struct w 9999 _ _ _ tok_struct tok_held]
  have hf := tok_fields
  match hl : (Tryd.prog.fieldsOf 37).toList with
  | [] => rw [hl] at hf; simp at hf
  | [_] => rw [hl] at hf; simp at hf
  | [_, _] => rw [hl] at hf; simp at hf
  | f :: g :: h :: i :: r => rw [hl] at hf; simp at hf
  | [f, g, h] =>
    rw [hl] at hf
    simp only [List.map_cons, List.map_nil, List.cons.injEq, Prod.mk.injEq, and_true] at hf
    obtain ⟨⟨n0, t0, o0⟩, ⟨n1, t1, o1⟩, n2, t2, o2⟩ := hf
    have n0' : f.name ≠ "_" := by simpa using n0
    have n1' : g.name ≠ "_" := by simpa using n1
    have n2' : h.name ≠ "_" := by simpa using n2
    have e : ∀ x y : ByteArray, (Op.equalIn 9999 9 (.string x) (.string y)).run Tryd.prog w = .ok (eqS x y) w := fun x y => run_equalIn_string w 9998 _ x y Tryd.underlying9
    have ei : ∀ x y : Int, (Op.equalIn 9999 3 (.int .i64 x) (.int .i64 y)).run Tryd.prog w = .ok (x == y) w := fun x y => run_equalIn_int w 9998 _ .i64 .i64 x y Tryd.underlying3
    have p0 := part_int w #[.int .i64 a, .string b, .int .i64 x] 0 a rfl
    have p1 := part_int w #[.int .i64 c, .string d, .int .i64 y] 0 c rfl
    have p2 := part_string w #[.int .i64 a, .string b, .int .i64 x] 1 b rfl
    have p3 := part_string w #[.int .i64 c, .string d, .int .i64 y] 1 d rfl
    have p4 := part_int w #[.int .i64 a, .string b, .int .i64 x] 2 x rfl
    have p5 := part_int w #[.int .i64 c, .string d, .int .i64 y] 2 y rfl
    simp only [Op.eqFields, if_pos n0', if_pos n1', if_pos n2', t0, t1, t2, o0, o1, o2, Sem.run_bind, p0, p1, Result.andThen_ok, ei]
    cases a == c
    · simp [Sem.run_pure]
    · simp only [Bool.not_true, Bool.false_eq_true, if_false, Sem.run_bind, p2, p3, Result.andThen_ok, e]
      cases eqS b d
      · simp [Sem.run_pure]
      · simp only [Bool.not_true, Bool.false_eq_true, if_false, Sem.run_bind, p4, p5, Result.andThen_ok, ei]
        cases x == y <;> simp [Sem.run_pure]
theorem run_neq_tok (w : World) (x y : Tg) : (binOp .neq 37 (.agg #[.int .i64 x.1, .string x.2.1, .int .i64 x.2.2]) (.agg #[.int .i64 y.1, .string y.2.1, .int .i64 y.2.2])).run Tryd.prog w = .ok (.bool (!tgEq x y)) w := by
  rw [run_neq_struct, run_eq_tok]; rfl
theorem run_eql_tok (w : World) (x y : Tg) : (binOp .eql 37 (.agg #[.int .i64 x.1, .string x.2.1, .int .i64 x.2.2]) (.agg #[.int .i64 y.1, .string y.2.1, .int .i64 y.2.2])).run Tryd.prog w = .ok (.bool (tgEq x y)) w := by
  rw [run_eql_struct, run_eq_tok]; rfl

set_option maxRecDepth 100000 in
set_option maxHeartbeats 1000000 in
theorem equal_any (A A' : Option Addr) (n c n' c' : Nat) (l m : List Tg) (w : World) (hn : n = l.length) (hn' : n' = m.length) (hr : Rds w w.heap.size A (cellsG l)) (hr' : Rds w w.heap.size A' (cellsG m)) (hl : l.length ≤ 1000000) :
    Calls Tryd.prog 26 #[.slice A n c, .slice A' n' c'] w fun e w' => e = .returned (.bool (sameB l m)) ∧ ∃ n, w' = w.drewN n := by
  subst hn hn'
  by_cases hne : l.length = m.length
  · have HN := Lib.hid hne
    have hne' : ((l.length : Int) != (m.length : Int)) = false := by simp; omega
    have HR : Hid (sameB l m = sameG l m) := by unfold Hid sameB; rw [decide_eq_true hne]; rfl
    clear hne
    go_enter Tryd.func26, Tryd.ntmps26
    go_wp2_with fail
    go_loopw [13] (fun i wr => ∃ k : Nat, k ≤ l.length ∧ i = .int .i64 k ∧ Hid (sameG l m = sameG (l.drop k) (m.drop k)) ∧ ∃ n, wr = w.drewN n) (fun i _ => l.length - (intOf i).toNat)
    case atStart => exact ⟨0, Nat.zero_le _, rfl, Lib.hid (by simp), 0, rfl⟩
    case round =>
      obtain ⟨k, hk, rfl, HF, nd, rfl⟩ := hrel
      by_cases hlt : k < l.length
      · have hlt' : k < m.length := by have := HN.out; omega
        obtain ⟨ad, rfl, hb, c0, c1, c2⟩ := tok_at hr hlt
        obtain ⟨bd, rfl, hb', c0', c1', c2'⟩ := tok_at hr' hlt'
        have HS := Lib.hid (sameG_at l m k hlt hlt')
        clear hr hr'
        have hq := fun u : World => run_neq_tok u l[k] m[k]
        have hq2 := tok_guard
        cases hE : tgEq l[k] m[k]
        · have HS' : Hid (sameG (l.drop k) (m.drop k) = false) := by unfold Hid; rw [HS.out, hE]; rfl
          rw [hE] at hq
          go_wp2_with fail
          go_quiet (fail)
          go_wp2_with fail
          go_ret
          exact ⟨by rw [HR.out, HF.out, HS'.out]; rfl, _, World.drewN_drewN _ _ _⟩
        · have HS' : Hid (sameG (l.drop k) (m.drop k) = sameG (l.drop (k + 1)) (m.drop (k + 1))) := by unfold Hid; rw [HS.out, hE]; rfl
          rw [hE] at hq
          go_wp2_with fail
          go_quiet (fail)
          go_wp2_with fail
          go_roundw
          case rel => exact ⟨k + 1, by omega, by go_num, Lib.hid (HF.out.trans HS'.out), _, rfl⟩
          case measure => simp [intOf]; omega
      · have HS := Lib.hid (sameG_end l m k (by omega))
        go_wp2_with fail
        go_ret
        exact ⟨by rw [HR.out, HF.out, HS.out]; rfl, nd, rfl⟩
  · have hne' : ((l.length : Int) != (m.length : Int)) = true := by simp; omega
    have HR : Hid (sameB l m = false) := by unfold Hid sameB; rw [decide_eq_false hne]; rfl
    clear hne
    go_enter Tryd.func26, Tryd.ntmps26
    go_wp2_with fail
    go_ret
    exact ⟨by rw [HR.out]; rfl, 0, rfl⟩

set_option maxRecDepth 100000 in
set_option maxHeartbeats 1000000 in
theorem refSame_any (A A' : Option Addr) (n c n' c' : Nat) (l m : List Tg) (w : World) (hn : n = l.length) (hn' : n' = m.length) (hr : Rds w w.heap.size A (cellsG l)) (hr' : Rds w w.heap.size A' (cellsG m)) (hl : l.length ≤ 1000000) :
    Calls Tryd.prog 13 #[.slice A n c, .slice A' n' c'] w fun e w' => e = .returned (.bool (sameB l m)) ∧ ∃ n, w' = w.drewN n := by
  subst hn hn'
  by_cases hne : l.length = m.length
  · have HN := Lib.hid hne
    have hne' : ((l.length : Int) != (m.length : Int)) = false := by simp; omega
    have HR : Hid (sameB l m = sameG l m) := by unfold Hid sameB; rw [decide_eq_true hne]; rfl
    clear hne
    go_enter Tryd.func13, Tryd.ntmps13
    go_wp2_with fail
    go_loopw [5] (fun i wr => ∃ k : Nat, k ≤ l.length ∧ i = .int .i64 k ∧ Hid (sameG l m = sameG (l.drop k) (m.drop k)) ∧ ∃ n, wr = w.drewN n) (fun i _ => l.length - (intOf i).toNat)
    case atStart => exact ⟨0, Nat.zero_le _, rfl, Lib.hid (by simp), 0, rfl⟩
    case round =>
      obtain ⟨k, hk, rfl, HF, nd, rfl⟩ := hrel
      by_cases hlt : k < l.length
      · have hlt' : k < m.length := by have := HN.out; omega
        obtain ⟨ad, rfl, hb, c0, c1, c2⟩ := tok_at hr hlt
        obtain ⟨bd, rfl, hb', c0', c1', c2'⟩ := tok_at hr' hlt'
        have HS := Lib.hid (sameG_at l m k hlt hlt')
        clear hr hr'
        have hq := fun u : World => run_neq_tok u l[k] m[k]
        have hq2 := tok_guard
        cases hE : tgEq l[k] m[k]
        · have HS' : Hid (sameG (l.drop k) (m.drop k) = false) := by unfold Hid; rw [HS.out, hE]; rfl
          rw [hE] at hq
          go_wp2_with fail
          go_quiet (fail)
          go_wp2_with fail
          go_ret
          exact ⟨by rw [HR.out, HF.out, HS'.out]; rfl, _, World.drewN_drewN _ _ _⟩
        · have HS' : Hid (sameG (l.drop k) (m.drop k) = sameG (l.drop (k + 1)) (m.drop (k + 1))) := by unfold Hid; rw [HS.out, hE]; rfl
          rw [hE] at hq
          go_wp2_with fail
          go_quiet (fail)
          go_wp2_with fail
          go_roundw
          case rel => exact ⟨k + 1, by omega, by go_num, Lib.hid (HF.out.trans HS'.out), _, rfl⟩
          case measure => simp [intOf]; omega
      · have HS := Lib.hid (sameG_end l m k (by omega))
        go_wp2_with fail
        go_ret
        exact ⟨by rw [HR.out, HF.out, HS.out]; rfl, nd, rfl⟩
  · have hne' : ((l.length : Int) != (m.length : Int)) = true := by simp; omega
    have HR : Hid (sameB l m = false) := by unfold Hid sameB; rw [decide_eq_false hne]; rfl
    clear hne
    go_enter Tryd.func13, Tryd.ntmps13
    go_wp2_with fail
    go_ret
    exact ⟨by rw [HR.out]; rfl, 0, rfl⟩

theorem same_any (A A' : Option Addr) (n c n' c' : Nat) (l m : List Tg) (w : World) (hn : n = l.length) (hn' : n' = m.length) (hr : Rds w w.heap.size A (cellsG l)) (hr' : Rds w w.heap.size A' (cellsG m)) (hl : l.length ≤ 1000000) :
    Calls Tryd.prog 19 #[.slice A n c, .slice A' n' c'] w fun e w' => e = .returned (.bool (sameB l m)) ∧ ∃ n, w' = w.drewN n := by
  subst hn hn'
  have C := Lib.hid (equal_any A A' l.length c m.length c' l m w rfl rfl hr hr' hl)
  clear hr hr'
  go_enter Tryd.func19, Tryd.ntmps19
  go_wp2_with fail
  refine C.out.mono ?_
  rintro e w1 ⟨rfl, hd⟩
  go_wp2_with fail
  go_ret
  exact ⟨rfl, hd⟩
end Go.Proofs.YtanbhfhhomopfaaDoor.Lx
