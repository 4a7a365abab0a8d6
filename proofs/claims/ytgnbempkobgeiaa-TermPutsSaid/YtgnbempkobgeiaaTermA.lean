/-
  Terms in memory; contracts of the leaves: isPlace, the two Keys, look, the two Ofs, the two Sames.
-/
import Derived.Test.YtgnbempkobgeiaaHashY
import Derived.Test.YtgnbempkobgeiaaHashZ
import Derived.Test.YtgnbempkobgeiaaRef1
namespace Go.Proofs.Ytgnbempkobgeiaa.Tm
open Go.RowKit Kit Hs

def isPl (x n : Int) : Bool := decide (0 ≤ x) && decide (x < n)
theorem isPl_iff (x n : Int) : isPl x n = true ↔ 0 ≤ x ∧ x < n := by unfold isPl; simp
theorem isPl_no {x n : Int} (h : isPl x n = false) : ¬ (0 ≤ x ∧ x < n) := fun e => by rw [(isPl_iff x n).2 e] at h; cases h

theorem isPlace_any (x n : Int) (w : World) : Calls Try.prog 35 #[.int .i64 x, .int .i64 n] w fun e w' => e = .returned (.bool (isPl x n)) ∧ w = w' := by
  by_cases h : 0 ≤ x
  · have HR : Hid (isPl x n = decide (x < n)) := by unfold Hid isPl; rw [decide_eq_true h]; rfl
    have d : decide (0 ≤ x) = true := decide_eq_true h
    go_enter Try.func35, Try.ntmps35
    go_wp2_with fail
    go_ret
    exact ⟨by rw [HR.out]; rfl, rfl⟩
  · have HR : Hid (isPl x n = false) := by unfold Hid isPl; rw [decide_eq_false h]; rfl
    have d : decide (0 ≤ x) = false := decide_eq_false h
    clear h
    go_enter Try.func35, Try.ntmps35
    go_wp2_with fail
    go_ret
    exact ⟨by rw [HR.out]; rfl, rfl⟩

/-! ### keys -/
def KeyPost (key : List Int) (w : World) (e : Ending) (w' : World) : Prop :=
  ∃ g c, e = .returned (.slice (some ⟨g, 0, none⟩) key.length c) ∧ w.heap.size ≤ g ∧ key.length ≤ c ∧ OwnI w' g key ∧ Q w w'
theorem own_block {w : World} {base g : Nat} {e : TypeId} {cs : Array Value} (hb : base ≤ g) (hg : w.heap[g]? = some (.cells cs e (0, 0))) (hm : cs.size ≤ maxLen) : w.ownsRow base e 1 (.slice (some ⟨g, 0, none⟩) cs.size cs.size) cs.size cs.toList :=
  ⟨by simp, .inr ⟨g, cs.size, cs, rfl, hb, hg, Nat.le_refl _, hm, by simp, by simp only [Nat.mul_one]; exact List.take_of_length_le (by rw [Array.length_toList]; exact Nat.le_refl _)⟩⟩
theorem key_close {w w' : World} {v : Value} {m : Nat} {ys xs key : List Int} {cs : List Value} (hc : cs = cellsI ys ++ cellsI xs) (hk : key = ys ++ xs) (h0 : 0 < key.length) (hm : m = key.length) (h : w'.ownsRow w.heap.size 3 1 v m cs) (q : Q w w') : KeyPost key w (.returned v) w' := by
  subst hm hc
  obtain ⟨A, c, rfl, hle, hA⟩ := own_form h
  obtain ⟨g, rfl, hg, _, _⟩ := hA h0
  refine ⟨g, c, rfl, hg, hle, ?_, q⟩
  have e : cellsI ys ++ cellsI xs = cellsI key := by rw [hk]; simp [cellsI]
  rw [e] at h
  exact OwnI.of_own h

set_option maxHeartbeats 1000000 in
theorem key_any (E : Option Addr) (n ce : Nat) (k s p : Int) (xs : List Int) (w : World) (hn : n = xs.length) (he : Ints w w.heap.size E xs) (hl : xs.length ≤ 100000) :
    Calls Try.prog 22 #[.agg #[.int .i64 k, .int .i64 s, .int .i64 p, .slice E n ce]] w (KeyPost (k :: s :: p :: xs) w) := by
  subst hn
  obtain ⟨i0, hi, hz0, hz1, hz2⟩ := info_parts intInfo
  have Hi := Lib.hid hi
  have Hz0 := Lib.hid hz0
  have Hz1 := Lib.hid hz1
  have Hz2 := Lib.hid hz2
  have q0 := ((Q.refl w).alloc (Obj.cells #[.int .i64 k, .int .i64 s, .int .i64 p, .slice E xs.length ce] 28)).alloc (Obj.cells #[.int .i64 k, .int .i64 s, .int .i64 p] 3)
  have Hs := Lib.hid (he.srcB.keep q0)
  have ho := own_block (base := w.heap.size) (e := 3) (cs := #[.int .i64 k, .int .i64 s, .int .i64 p]) (Nat.le_succ _) (heap_two_new w (Obj.cells #[.int .i64 k, .int .i64 s, .int .i64 p, .slice E xs.length ce] 28) (Obj.cells #[.int .i64 k, .int .i64 s, .int .i64 p] 3)) (by unfold maxLen; simp)
  have Ho := Lib.hid ho
  clear hi hz0 hz1 hz2 he ho
  go_enter Try.func22, Try.ntmps22
  go_wp2_with (at_builtin; refine wpList_append_src _ rfl (.tmp 9) (.tmp 11) _ rfl w.heap.size 3 i0 _ 1 8 Try.underlying24 Hi.out Hz0.out Hz1.out Hz2.out rfl (by omega) (.slice (some ⟨w.heap.size + 1, 0, none⟩) 3 3) 3 [.int .i64 k, .int .i64 s, .int .i64 p] rfl Ho.out E xs.length ce (cellsI xs) rfl (by simp [cellsI]) Hs.out.src (cellsI_one xs) (by unfold maxLen; omega) (by omega) (by simp; omega) ?_; intro v' w' own' gr' _)
  have q2 : Q w w' := q0.grown gr' (by simp; omega) (by simp [Value.ownBlock])
  have Ho' := Lib.hid own'
  clear own' gr'
  go_wp2_with fail
  go_ret
  exact key_close (ys := [k, s, p]) (xs := xs) rfl rfl (by simp) (by simp; omega) Ho'.out q2

set_option maxHeartbeats 1000000 in
theorem refKey_any (E : Option Addr) (n ce : Nat) (k s p : Int) (xs : List Int) (w : World) (hn : n = xs.length) (he : Ints w w.heap.size E xs) (hl : xs.length ≤ 100000) :
    Calls Try.prog 32 #[.agg #[.int .i64 k, .int .i64 s, .int .i64 p, .slice E n ce]] w (KeyPost (k :: s :: p :: xs) w) := by
  subst hn
  obtain ⟨i0, hi, hz0, hz1, hz2⟩ := info_parts intInfo
  have Hi := Lib.hid hi
  have Hz0 := Lib.hid hz0
  have Hz1 := Lib.hid hz1
  have Hz2 := Lib.hid hz2
  have q0 := ((Q.refl w).alloc (Obj.cells #[.int .i64 k, .int .i64 s, .int .i64 p, .slice E xs.length ce] 28)).alloc (Obj.cells #[.int .i64 k, .int .i64 s, .int .i64 p] 3)
  have Hs := Lib.hid (he.srcB.keep q0)
  have ho := own_block (base := w.heap.size) (e := 3) (cs := #[.int .i64 k, .int .i64 s, .int .i64 p]) (Nat.le_succ _) (heap_two_new w (Obj.cells #[.int .i64 k, .int .i64 s, .int .i64 p, .slice E xs.length ce] 28) (Obj.cells #[.int .i64 k, .int .i64 s, .int .i64 p] 3)) (by unfold maxLen; simp)
  have Ho := Lib.hid ho
  clear hi hz0 hz1 hz2 he ho
  go_enter Try.func32, Try.ntmps32
  go_wp2_with (at_builtin; refine wpList_append_src _ rfl (.tmp 11) (.tmp 13) _ rfl w.heap.size 3 i0 _ 1 8 Try.underlying24 Hi.out Hz0.out Hz1.out Hz2.out rfl (by omega) (.slice (some ⟨w.heap.size + 1, 0, none⟩) 3 3) 3 [.int .i64 k, .int .i64 s, .int .i64 p] rfl Ho.out E xs.length ce (cellsI xs) rfl (by simp [cellsI]) Hs.out.src (cellsI_one xs) (by unfold maxLen; omega) (by omega) (by simp; omega) ?_; intro v' w' own' gr' _)
  have q2 : Q w w' := q0.grown gr' (by simp; omega) (by simp [Value.ownBlock])
  have Ho' := Lib.hid own'
  clear own' gr'
  go_wp2_with fail
  go_ret
  exact key_close (ys := [k, s, p]) (xs := xs) rfl rfl (by simp) (by simp; omega) Ho'.out q2
end Go.Proofs.Ytgnbempkobgeiaa.Tm
