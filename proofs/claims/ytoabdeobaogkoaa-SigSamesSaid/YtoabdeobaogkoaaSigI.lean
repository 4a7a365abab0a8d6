/-
  Contracts of Same: the program's (slices.Equal) and the document's.
-/
import Derived.Test.YtoabdeobaogkoaaSigH
import Derived.Laws.StructEq
import Derived.ChangeKeysEq
namespace Go.Proofs.Ytoabdeobaogkoaa.Sg
open Go.RowKit Kit

def sigEq (a b : Sig) : Bool := eqS a.1 b.1 && eqS a.2 b.2
theorem sigEq_iff (a b : Sig) : sigEq a b = true ↔ a = b := by
  unfold sigEq
  rw [Bool.and_eq_true, eqS_iff, eqS_iff, Prod.ext_iff]
/-- two rows of one length are the same -/
def sameG : List Sig → List Sig → Bool
  | a :: l, b :: m => sigEq a b && sameG l m
  | _, _ => true
def sameB (l m : List Sig) : Bool := decide (l.length = m.length) && sameG l m
theorem sameG_at (l m : List Sig) (k : Nat) (h : k < l.length) (h' : k < m.length) : sameG (l.drop k) (m.drop k) = (sigEq l[k] m[k] && sameG (l.drop (k + 1)) (m.drop (k + 1))) := by
  rw [List.drop_eq_getElem_cons h, List.drop_eq_getElem_cons h']; rfl
theorem sameG_end (l m : List Sig) (k : Nat) (h : l.length ≤ k) : sameG (l.drop k) (m.drop k) = true := by
  rw [List.drop_eq_nil_of_le h]; rfl
theorem sameG_iff : ∀ (l m : List Sig), l.length = m.length → (sameG l m = true ↔ l = m)
  | [], [], _ => by simp [sameG]
  | a :: l, b :: m, h => by
    rw [sameG, Bool.and_eq_true, sigEq_iff, sameG_iff l m (by simpa using h)]
    simp
theorem sameB_iff (l m : List Sig) : sameB l m = true ↔ l = m := by
  unfold sameB
  rw [Bool.and_eq_true, decide_eq_true_eq]
  constructor
  · rintro ⟨h, g⟩; exact (sameG_iff l m h).1 g
  · rintro rfl; exact ⟨rfl, (sameG_iff l l rfl).2 rfl⟩

theorem sig_struct : Try.prog.underlying 24 = some (.struct (Try.prog.fieldsOf 24)) := by kernel_rfl
theorem sig_held : Try.prog.stoodInHeld 24 = false := by kernel_rfl
theorem sig_guard : Try.prog.eqGuardType Try.prog.depth 24 = false := by kernel_rfl
theorem sig_fields : (Try.prog.fieldsOf 24).toList.map (fun f => (f.name == "_", f.type, f.offset)) = [(false, 9, 0), (false, 9, 1)] := by kernel_rfl
theorem part_string (w : World) (xs : Array Value) (k : Nat) (s : ByteArray) (h : xs[k]? = some (.string s)) : (part 9 xs k).run Try.prog w = .ok (.string s) w := run_part_plain w (by kernel_rfl) h
theorem run_eq_sig (w : World) (a b c d : ByteArray) : (Op.equalIn 10000 24 (.agg #[.string a, .string b]) (.agg #[.string c, .string d])).run Try.prog w = .ok (eqS a c && eqS b d) w := by
  rw [show (10000 : Nat) = 9999 + 1 from rfl, run_equalIn_struct w 9999 _ _ _ sig_struct sig_held]
  have hf := sig_fields
  match hl : (Try.prog.fieldsOf 24).toList with
  | [] => rw [hl] at hf; simp at hf
  | [_] => rw [hl] at hf; simp at hf
  | f :: g :: h :: r => rw [hl] at hf; simp at hf
  | [f, g] =>
    rw [hl] at hf
    simp only [List.map_cons, List.map_nil, List.cons.injEq, Prod.mk.injEq, and_true] at hf
    obtain ⟨⟨n0, t0, o0⟩, n1, t1, o1⟩ := hf
    have n0' : f.name ≠ "_" := by simpa using n0
    have n1' : g.name ≠ "_" := by simpa using n1
    have e : ∀ x y : ByteArray, (Op.equalIn 9999 9 (.string x) (.string y)).run Try.prog w = .ok (eqS x y) w := fun x y => run_equalIn_string w 9998 _ x y Try.underlying9
    have p0 := part_string w #[.string a, .string b] 0 a rfl
    have p1 := part_string w #[.string c, .string d] 0 c rfl
    have p2 := part_string w #[.string a, .string b] 1 b rfl
    have p3 := part_string w #[.string c, .string d] 1 d rfl
    simp only [Op.eqFields, if_pos n0', if_pos n1', t0, t1, o0, o1, Sem.run_bind, p0, p1, Result.andThen_ok, e]
    cases eqS a c
    · simp [Sem.run_pure]
    · simp only [Bool.not_true, Bool.false_eq_true, if_false, Sem.run_bind, p2, p3, Result.andThen_ok, e]
      cases eqS b d <;> simp [Sem.run_pure]
theorem run_neq_sig (w : World) (x y : Sig) : (binOp .neq 24 (.agg #[.string x.1, .string x.2]) (.agg #[.string y.1, .string y.2])).run Try.prog w = .ok (.bool (!sigEq x y)) w := by
  rw [run_neq_struct, run_eq_sig]; rfl
theorem run_eql_sig (w : World) (x y : Sig) : (binOp .eql 24 (.agg #[.string x.1, .string x.2]) (.agg #[.string y.1, .string y.2])).run Try.prog w = .ok (.bool (sigEq x y)) w := by
  rw [run_eql_struct, run_eq_sig]; rfl

set_option maxHeartbeats 400000 in
theorem refSame_q (A A' : Option Addr) (n c n' c' : Nat) (l m : List Sig) (w : World) (hn : n = l.length) (hn' : n' = m.length) (hr : Row w w.heap.size A l) (hr' : Row w w.heap.size A' m) (hl : l.length ≤ maxLen) :
    Calls Try.prog 13 #[.slice A n c, .slice A' n' c'] w fun e w' => e = .returned (.bool (sameB l m)) ∧ ∃ n, w' = w.drewN n := by
  subst hn hn'
  unfold maxLen at hl
  by_cases hne : l.length = m.length
  · have HN := Lib.hid hne
    have hne' : ((l.length : Int) != (m.length : Int)) = false := by simp; omega
    have HR : Hid (sameB l m = sameG l m) := by unfold Hid sameB; rw [decide_eq_true hne]; rfl
    clear hne
    go_enter Try.func13, Try.ntmps13
    go_wp2_with fail
    go_loopw [5] (fun i wr => ∃ k : Nat, k ≤ l.length ∧ i = .int .i64 k ∧ Hid (sameG l m = sameG (l.drop k) (m.drop k)) ∧ ∃ n, wr = w.drewN n) (fun i _ => l.length - (intOf i).toNat)
    case atStart => exact ⟨0, Nat.zero_le _, rfl, Lib.hid (by simp), 0, rfl⟩
    case round =>
      obtain ⟨k, hk, rfl, HF, nd, rfl⟩ := hrel
      by_cases hlt : k < l.length
      · have hlt' : k < m.length := by have := HN.out; omega
        obtain ⟨ad, rfl, hb, c0, c1⟩ := hr.at_ hlt
        obtain ⟨bd, rfl, hb', c0', c1'⟩ := hr'.at_ hlt'
        have HS := Lib.hid (sameG_at l m k hlt hlt')
        clear hr hr'
        have hq := fun u : World => run_neq_sig u l[k] m[k]
        have hq2 := sig_guard
        cases hE : sigEq l[k] m[k]
        · have HS' : Hid (sameG (l.drop k) (m.drop k) = false) := by unfold Hid; rw [HS.out, hE]; rfl
          rw [hE] at hq
          go_wp2_with fail
          go_quiet (fail)
          go_wp2_with fail
          go_ret
          exact ⟨by rw [HR.out, HF.out, HS'.out]; rfl, _, World.drewN_drewN _ _ _⟩
        · have HS' : Hid (sameG (l.drop k) (m.drop k) = sameG (l.drop (k + 1)) (m.drop (k + 1))) := by unfold Hid; rw [HS.out, hE]; rfl
          rw [hE] at hq
          go_wp2_with fail
          go_quiet (fail)
          go_wp2_with fail
          go_roundw
          case rel => exact ⟨k + 1, by omega, by go_num, Lib.hid (HF.out.trans HS'.out), _, rfl⟩
          case measure => simp [intOf]; omega
      · have HS := Lib.hid (sameG_end l m k (by omega))
        go_wp2_with fail
        go_ret
        exact ⟨by rw [HR.out, HF.out, HS.out]; rfl, nd, rfl⟩
  · have hne' : ((l.length : Int) != (m.length : Int)) = true := by simp; omega
    have HR : Hid (sameB l m = false) := by unfold Hid sameB; rw [decide_eq_false hne]; rfl
    clear hne
    go_enter Try.func13, Try.ntmps13
    go_wp2_with fail
    go_ret
    exact ⟨by rw [HR.out]; rfl, 0, rfl⟩

set_option maxHeartbeats 400000 in
theorem equal_q (A A' : Option Addr) (n c n' c' : Nat) (l m : List Sig) (w : World) (hn : n = l.length) (hn' : n' = m.length) (hr : Row w w.heap.size A l) (hr' : Row w w.heap.size A' m) (hl : l.length ≤ maxLen) :
    Calls Try.prog 27 #[.slice A n c, .slice A' n' c'] w fun e w' => e = .returned (.bool (sameB l m)) ∧ ∃ n, w' = w.drewN n := by
  subst hn hn'
  unfold maxLen at hl
  by_cases hne : l.length = m.length
  · have HN := Lib.hid hne
    have hne' : ((l.length : Int) != (m.length : Int)) = false := by simp; omega
    have HR : Hid (sameB l m = sameG l m) := by unfold Hid sameB; rw [decide_eq_true hne]; rfl
    clear hne
    go_enter Try.func27, Try.ntmps27
    go_wp2_with fail
    go_loopw [5, 13] (fun _ i wr => ∃ k : Nat, k ≤ l.length ∧ i = .int .i64 k ∧ Hid (sameG l m = sameG (l.drop k) (m.drop k)) ∧ ∃ n, wr = w.drewN n) (fun _ i _ => l.length - (intOf i).toNat)
    case atStart => exact ⟨0, Nat.zero_le _, rfl, Lib.hid (by simp), 0, rfl⟩
    case round =>
      obtain ⟨k, hk, rfl, HF, nd, rfl⟩ := hrel
      by_cases hlt : k < l.length
      · have hlt' : k < m.length := by have := HN.out; omega
        obtain ⟨ad, rfl, hb, c0, c1⟩ := hr.at_ hlt
        obtain ⟨bd, rfl, hb', c0', c1'⟩ := hr'.at_ hlt'
        have HS := Lib.hid (sameG_at l m k hlt hlt')
        clear hr hr'
        have hq := fun u : World => run_neq_sig u l[k] m[k]
        have hq2 := sig_guard
        cases hE : sigEq l[k] m[k]
        · have HS' : Hid (sameG (l.drop k) (m.drop k) = false) := by unfold Hid; rw [HS.out, hE]; rfl
          rw [hE] at hq
          go_wp2_with fail
          go_quiet (fail)
          go_wp2_with fail
          go_ret
          exact ⟨by rw [HR.out, HF.out, HS'.out]; rfl, _, World.drewN_drewN _ _ _⟩
        · have HS' : Hid (sameG (l.drop k) (m.drop k) = sameG (l.drop (k + 1)) (m.drop (k + 1))) := by unfold Hid; rw [HS.out, hE]; rfl
          rw [hE] at hq
          go_wp2_with fail
          go_quiet (fail)
          go_wp2_with fail
          go_roundw
          case rel => exact ⟨k + 1, by omega, by go_num, Lib.hid (HF.out.trans HS'.out), _, rfl⟩
          case measure => simp [intOf]; omega
      · have HS := Lib.hid (sameG_end l m k (by omega))
        go_wp2_with fail
        go_ret
        exact ⟨by rw [HR.out, HF.out, HS.out]; rfl, nd, rfl⟩
  · have hne' : ((l.length : Int) != (m.length : Int)) = true := by simp; omega
    have HR : Hid (sameB l m = false) := by unfold Hid sameB; rw [decide_eq_false hne]; rfl
    clear hne
    go_enter Try.func27, Try.ntmps27
    go_wp2_with fail
    go_ret
    exact ⟨by rw [HR.out]; rfl, 0, rfl⟩

theorem same_q (A A' : Option Addr) (n c n' c' : Nat) (l m : List Sig) (w : World) (hn : n = l.length) (hn' : n' = m.length) (hr : Row w w.heap.size A l) (hr' : Row w w.heap.size A' m) (hl : l.length ≤ maxLen) :
    Calls Try.prog 18 #[.slice A n c, .slice A' n' c'] w fun e w' => e = .returned (.bool (sameB l m)) ∧ ∃ n, w' = w.drewN n := by
  subst hn hn'
  go_enter Try.func18, Try.ntmps18
  go_wp2_with fail
  refine (equal_q _ _ _ _ _ _ l m _ rfl rfl hr hr' hl).mono ?_
  rintro e w1 ⟨rfl, nd, rfl⟩
  go_wp2_with fail
  go_ret
  exact ⟨rfl, nd, rfl⟩
theorem refSame_any (A A' : Option Addr) (n c n' c' : Nat) (l m : List Sig) (w : World) (hn : n = l.length) (hn' : n' = m.length) (hr : Row w w.heap.size A l) (hr' : Row w w.heap.size A' m) (hl : l.length ≤ maxLen) :
    Calls Try.prog 13 #[.slice A n c, .slice A' n' c'] w fun e w' => e = .returned (.bool (sameB l m)) ∧ Q w w' :=
  (refSame_q A A' n c n' c' l m w hn hn' hr hr' hl).mono fun _ _ ⟨he, _, hw⟩ => ⟨he, by rw [hw]; exact (Q.refl _).drewN _⟩
end Go.Proofs.Ytoabdeobaogkoaa.Sg
