/-
  Contracts: those (the numbers that are such, by a closure), and Firsts.
-/
import Derived.Test.YtodmompfnlcjpaaUfC
namespace Go.Proofs.Ytodmompfnlcjpaa.Uf
open Go.RowKit Kit Tr

/-- what a call answers: a row of numbers, that can be read -/
def RowPost (l : List Int) (w : World) (e : Ending) (w' : World) : Prop :=
  ∃ A k, e = .returned (.slice A l.length k) ∧ l.length ≤ k ∧ Rds w' w'.heap.size A (cellsI l) ∧ Q w w'
theorem own_read {w : World} {base : Nat} {v : Value} {n : Nat} {l : List Int} (h : w.ownsRow base 3 1 v n (cellsI l)) (hn : n = l.length) : ∃ A c, v = .slice A l.length c ∧ l.length ≤ c ∧ Rds w w.heap.size A (cellsI l) := by
  subst hn
  have h2 := h
  obtain ⟨hl, ⟨rfl, h0⟩ | ⟨g, cap, cur, rfl, hg, hh, hc, _⟩⟩ := h
  · exact ⟨none, 0, by rw [h0], by omega, fun h => by rw [cellsI_len] at h; omega⟩
  · exact ⟨_, cap, rfl, hc, (OwnC.of_row h2).rds⟩
theorem own_nil (w : World) (base : Nat) : w.ownsRow base 3 1 (.slice none 0 0) 0 (cellsI []) := ⟨by simp [cellsI], .inl ⟨rfl, rfl⟩⟩

set_option maxRecDepth 100000 in
set_option maxHeartbeats 1000000 in
theorem thoseF (B : Nat) (L : Nat) (p : Nat → Bool) (w : World) (hl : L ≤ 1000000)
    (hS : ∀ (x : Nat) W, x < L → Q w W → Calls Try.prog 33 #[.int .i64 (x : Int), .pointer (some ⟨B, 0, none⟩)] W fun e W' => e = .returned (.bool (p x)) ∧ ∃ d, W' = W.drewN d) :
    Calls Try.prog 32 #[.int .i64 (L : Int), .func (.func 33) #[] #[.pointer (some ⟨B, 0, none⟩)]] w (RowPost (those L p) w) := by
  obtain ⟨i0, hi, hz0, hz1, hz2⟩ := info_parts intInfo
  have Hi := Lib.hid hi
  have Hz0 := Lib.hid hz0
  have Hz1 := Lib.hid hz1
  have Hz2 := Lib.hid hz2
  clear hi hz0 hz1 hz2
  have HS := Lib.hid hS
  clear hS
  go_enter Try.func32, Try.ntmps32
  go_wp2_with fail
  go_loopw [5, 8] (fun out i wr => ∃ (k : Nat) (v : Value), k ≤ L ∧ i = .int .i64 k ∧ v = out ∧ Hid (wr.ownsRow w.heap.size 3 1 v (those k p).length (cellsI (those k p))) ∧ Hid (Q w wr)) (fun _ i _ => L - (intOf i).toNat)
  case atStart => exact ⟨0, _, Nat.zero_le _, rfl, rfl, Lib.hid (own_nil w _), Lib.hid (Q.refl w)⟩
  case round =>
    obtain ⟨k, v, hk, rfl, rfl, HO, HQ⟩ := hrel
    by_cases hlt : k < L
    · have C := Lib.hid (HS.out k wr hlt HQ.out)
      cases hp : p k
      · rw [hp] at C
        have HO2 : Hid (those (k + 1) p = those k p) := those_no hp
        clear hp
        go_wp2_with (go_at_call 33; refine C.out.mono ?_; rintro e w2 ⟨rfl, hd⟩; have qd := q_drewN _ hd; clear hd)
        go_roundw
        case rel => exact ⟨k + 1, _, by omega, by go_num, rfl, by rw [HO2.out]; exact Lib.hid (row_kept HO.out qd (Nat.le_refl _)), Lib.hid (HQ.out.trans qd)⟩
        case measure => simp [intOf]; omega
      · rw [hp] at C
        have HO2 : Hid (those (k + 1) p = those k p ++ [(k : Int)]) := those_yes hp
        have hle : (those k p).length ≤ 1000000 := Nat.le_trans (those_len _ _) (by omega)
        clear hp
        go_wp2_with (first
          | (go_at_call 33; refine C.out.mono ?_; rintro e w2 ⟨rfl, hd⟩; have qd := q_drewN _ hd; clear hd; have qa := (Q.refl w2).alloc (Obj.cells #[.int .i64 (k : Int)] 3); have Ho := Lib.hid (row_kept (row_kept HO.out qd (Nat.le_refl _)) qa (Nat.le_refl _)); have Hs : Hid (Src (w2.alloc (Obj.cells #[.int .i64 (k : Int)] 3)) (some ⟨w2.heap.size, 0, none⟩) [.int .i64 (k : Int)]) := fun _ => ⟨_, rfl, src1 w2 (.int .i64 (k : Int)) 3⟩; have Hq2 := Lib.hid ((HQ.out.trans qd).trans qa); clear qa qd)
          | (at_builtin; refine wpList_append_src _ rfl (.tmp 14) (.tmp 16) _ rfl w.heap.size 3 i0 _ 1 8 Try.underlying22 Hi.out Hz0.out Hz1.out Hz2.out rfl (by omega) v (those k p).length (cellsI (those k p)) rfl Ho.out (some ⟨w2.heap.size, 0, none⟩) 1 1 [.int .i64 (k : Int)] rfl rfl Hs.out (by simp [Value.oneCell']) (by unfold maxLen; omega) (by omega) Hq2.out.size ?_; intro v' w' own' gr' _; have Own := Lib.hid own'; have HQ' : Hid (Q w w') := Below.grown Hq2.out gr' Hq2.out.size (fun i e => (Ho.out.lt i e).1); clear own' gr'))
        go_roundw
        case rel => exact ⟨k + 1, v', by omega, by go_num, rfl, by rw [HO2.out, cellsI_append, List.length_append]; exact Own, HQ'⟩
        case measure => simp [intOf]; omega
    · obtain ⟨A, c, rfl, hc, hR⟩ := own_read HO.out rfl
      obtain rfl : k = L := by omega
      have HRd := Lib.hid hR
      clear hR
      go_wp2_with fail
      go_ret
      exact ⟨A, c, rfl, hc, HRd.out, HQ.out⟩

set_option maxRecDepth 100000 in
set_option maxHeartbeats 1000000 in
theorem thoseC (B B2 : Nat) (L : Nat) (p : Nat → Bool) (w : World) (hl : L ≤ 1000000)
    (hS : ∀ (x : Nat) W, x < L → Q w W → Calls Try.prog 35 #[.int .i64 (x : Int), .pointer (some ⟨B, 0, none⟩), .pointer (some ⟨B2, 0, none⟩)] W fun e W' => e = .returned (.bool (p x)) ∧ ∃ d, W' = W.drewN d) :
    Calls Try.prog 32 #[.int .i64 (L : Int), .func (.func 35) #[] #[.pointer (some ⟨B, 0, none⟩), .pointer (some ⟨B2, 0, none⟩)]] w (RowPost (those L p) w) := by
  obtain ⟨i0, hi, hz0, hz1, hz2⟩ := info_parts intInfo
  have Hi := Lib.hid hi
  have Hz0 := Lib.hid hz0
  have Hz1 := Lib.hid hz1
  have Hz2 := Lib.hid hz2
  clear hi hz0 hz1 hz2
  have HS := Lib.hid hS
  clear hS
  go_enter Try.func32, Try.ntmps32
  go_wp2_with fail
  go_loopw [5, 8] (fun out i wr => ∃ (k : Nat) (v : Value), k ≤ L ∧ i = .int .i64 k ∧ v = out ∧ Hid (wr.ownsRow w.heap.size 3 1 v (those k p).length (cellsI (those k p))) ∧ Hid (Q w wr)) (fun _ i _ => L - (intOf i).toNat)
  case atStart => exact ⟨0, _, Nat.zero_le _, rfl, rfl, Lib.hid (own_nil w _), Lib.hid (Q.refl w)⟩
  case round =>
    obtain ⟨k, v, hk, rfl, rfl, HO, HQ⟩ := hrel
    by_cases hlt : k < L
    · have C := Lib.hid (HS.out k wr hlt HQ.out)
      cases hp : p k
      · rw [hp] at C
        have HO2 : Hid (those (k + 1) p = those k p) := those_no hp
        clear hp
        go_wp2_with (go_at_call 35; refine C.out.mono ?_; rintro e w2 ⟨rfl, hd⟩; have qd := q_drewN _ hd; clear hd)
        go_roundw
        case rel => exact ⟨k + 1, _, by omega, by go_num, rfl, by rw [HO2.out]; exact Lib.hid (row_kept HO.out qd (Nat.le_refl _)), Lib.hid (HQ.out.trans qd)⟩
        case measure => simp [intOf]; omega
      · rw [hp] at C
        have HO2 : Hid (those (k + 1) p = those k p ++ [(k : Int)]) := those_yes hp
        have hle : (those k p).length ≤ 1000000 := Nat.le_trans (those_len _ _) (by omega)
        clear hp
        go_wp2_with (first
          | (go_at_call 35; refine C.out.mono ?_; rintro e w2 ⟨rfl, hd⟩; have qd := q_drewN _ hd; clear hd; have qa := (Q.refl w2).alloc (Obj.cells #[.int .i64 (k : Int)] 3); have Ho := Lib.hid (row_kept (row_kept HO.out qd (Nat.le_refl _)) qa (Nat.le_refl _)); have Hs : Hid (Src (w2.alloc (Obj.cells #[.int .i64 (k : Int)] 3)) (some ⟨w2.heap.size, 0, none⟩) [.int .i64 (k : Int)]) := fun _ => ⟨_, rfl, src1 w2 (.int .i64 (k : Int)) 3⟩; have Hq2 := Lib.hid ((HQ.out.trans qd).trans qa); clear qa qd)
          | (at_builtin; refine wpList_append_src _ rfl (.tmp 14) (.tmp 16) _ rfl w.heap.size 3 i0 _ 1 8 Try.underlying22 Hi.out Hz0.out Hz1.out Hz2.out rfl (by omega) v (those k p).length (cellsI (those k p)) rfl Ho.out (some ⟨w2.heap.size, 0, none⟩) 1 1 [.int .i64 (k : Int)] rfl rfl Hs.out (by simp [Value.oneCell']) (by unfold maxLen; omega) (by omega) Hq2.out.size ?_; intro v' w' own' gr' _; have Own := Lib.hid own'; have HQ' : Hid (Q w w') := Below.grown Hq2.out gr' Hq2.out.size (fun i e => (Ho.out.lt i e).1); clear own' gr'))
        go_roundw
        case rel => exact ⟨k + 1, v', by omega, by go_num, rfl, by rw [HO2.out, cellsI_append, List.length_append]; exact Own, HQ'⟩
        case measure => simp [intOf]; omega
    · obtain ⟨A, c, rfl, hc, hR⟩ := own_read HO.out rfl
      obtain rfl : k = L := by omega
      have HRd := Lib.hid hR
      clear hR
      go_wp2_with fail
      go_ret
      exact ⟨A, c, rfl, hc, HRd.out, HQ.out⟩

end Go.Proofs.Ytodmompfnlcjpaa.Uf
