/-
  Contracts: Find; few, there, the document's Right.
-/
import Derived.Test.YtodmompfnlcjpaaUfB
import Derived.Test.YtodmompfnlcjpaaTrailM
namespace Go.Proofs.Ytodmompfnlcjpaa.Uf
open Go.RowKit Kit Tr

set_option maxRecDepth 100000 in
set_option maxHeartbeats 1000000 in
theorem find_any (R : List Int) (c : Cells) (m : Nat) (A D E : Option Addr) (n1 k1 n2 k2 n3 k3 : Nat) (w : World) (h1 : n1 = c.V.length) (h2 : n2 = c.N.length) (h3 : n3 = c.M.length) (h : Rd w c A k1 D k2 E k3) (hC : Cl R c.V) (hm : m < c.V.length) (hl : c.V.length ≤ 1000000) :
    Calls Try.prog 14 #[.agg #[.slice A n1 k1, .slice D n2 k2, .slice E n3 k3], .int .i64 (m : Int)] w fun e w' => e = .returned (.int .i64 (fst c.V m : Int)) ∧ Q w w' := by
  subst h1 h2 h3
  have q0 := (Q.refl w).alloc (Obj.cells #[Value.slice A c.V.length k1, Value.slice D c.N.length k2, Value.slice E c.M.length k3] 25)
  have HB := Lib.hid (Box3.new w (Value.slice A c.V.length k1) (Value.slice D c.N.length k2) (Value.slice E c.M.length k3) 25)
  have HR := Lib.hid (h.q q0)
  have HC := Lib.hid hC
  have HF : Hid (root c.V (c.V.length - 0) m = fst c.V m) := rfl
  clear h hC
  go_enter Try.func14, Try.ntmps14
  go_upto_region 1 with fail
  generalize w.alloc (Obj.cells #[Value.slice A c.V.length k1, Value.slice D c.N.length k2, Value.slice E c.M.length k3] 25) = W0 at *
  have b0 := HB.out.c0
  go_wp2_with fail
  go_loopw [1, 9] (fun x i wr => ∃ (k y : Nat), k ≤ c.V.length ∧ y < c.V.length ∧ i = .int .i64 k ∧ x = .int .i64 (y : Int) ∧ Hid (root c.V (c.V.length - k) y = fst c.V m) ∧ W0 = wr) (fun _ i _ => c.V.length - (intOf i).toNat)
  case atStart => exact ⟨0, m, Nat.zero_le _, hm, rfl, rfl, HF, rfl⟩
  case round =>
    clear HF
    obtain ⟨k, y, hk, hy, rfl, rfl, HH, rfl⟩ := hrel
    by_cases hlt : k < c.V.length
    · obtain ⟨p1, p2, _⟩ := HC.out.parent hy
      have C := Lib.hid (upU c.V A _ k1 y W0 rfl HR.out.v hy _ p2 p1)
      by_cases e : par c.V y = y
      · have HF : Hid (fst c.V m = y) := by have := HH.out; rw [root_stay e] at this; exact this.symm
        rw [e] at C
        clear p1 p2 e
        go_wp2_with (go_at_call 30; refine C.out.mono ?_; rintro e w2 ⟨rfl, rfl⟩)
        go_ret
        exact ⟨by rw [HF.out]; rfl, q0⟩
      · have HF : Hid (root c.V (c.V.length - (k + 1)) (par c.V y) = fst c.V m) := by
          have := HH.out
          rw [show c.V.length - k = (c.V.length - (k + 1)) + 1 by omega] at this
          unfold root at this
          rw [if_neg e] at this
          exact this
        have e1 : ((par c.V y : Int) == (y : Int)) = false := beq_eq_false_iff_ne.2 (by omega)
        have e2 : (par c.V y == y) = false := by simpa using e
        clear p2 e
        go_wp2_with (go_at_call 30; refine C.out.mono ?_; rintro e w2 ⟨rfl, rfl⟩)
        go_roundw
        case rel => exact ⟨k + 1, par c.V y, by omega, p1, by go_num, rfl, HF, trivial⟩
        case measure => simp [intOf]; omega
    · have HF : Hid (y = fst c.V m) := by
        have := HH.out
        rw [show c.V.length - k = 0 by omega] at this
        exact this
      go_wp2_with fail
      go_ret
      exact ⟨by rw [← HF.out]; rfl, q0⟩

theorem there_any (n1 : Nat) (b d : Value) (A : Option Addr) (k1 : Nat) (n : Int) (w : World) :
    Calls Try.prog 11 #[.agg #[.slice A n1 k1, b, d], .int .i64 n] w fun e w' => e = .returned (.bool (decide (0 ≤ n) && decide (n < (n1 : Int)))) ∧ Q w w' := by
  have q0 := (Q.refl w).alloc (Obj.cells #[Value.slice A n1 k1, b, d] 25)
  by_cases h : 0 ≤ n
  · have hd : decide (0 ≤ n) = true := decide_eq_true h
    rw [hd]
    go_enter Try.func11, Try.ntmps11
    go_wp2_with fail
    go_ret
    exact ⟨rfl, q0⟩
  · have hd : decide (0 ≤ n) = false := decide_eq_false h
    rw [hd]
    go_enter Try.func11, Try.ntmps11
    go_wp2_with fail
    go_ret
    exact ⟨rfl, q0⟩

theorem few5_any (c : Cells) (R : List Int) (A D E F : Option Addr) (n1 k1 n2 k2 n3 k3 n4 k4 : Nat) (w : World) (h1 : n1 = c.V.length) (h2 : n2 = c.N.length) (h3 : n3 = c.M.length) (h4 : n4 = R.length) (l1 : n1 ≤ 2305843009213693951) (l2 : n2 ≤ 2305843009213693951) (l3 : n3 ≤ 2305843009213693951) :
    Calls Try.prog 9 #[.agg #[.slice A n1 k1, .slice D n2 k2, .slice E n3 k3], .slice F n4 k4] w fun e w' => e = .returned (.bool (fewB c && decide (R.length ≤ 200))) ∧ Q w w' := by
  have q0 := (Q.refl w).alloc (Obj.cells #[Value.slice A n1 k1, Value.slice D n2 k2, Value.slice E n3 k3] 25)
  have C := Lib.hid (few_any c A D E n1 k1 n2 k2 n3 k3 (w.alloc (Obj.cells #[Value.slice A n1 k1, Value.slice D n2 k2, Value.slice E n3 k3] 25)) h1 h2 h3 l1 l2 l3)
  subst h4
  clear h1 h2 h3 l1 l2 l3
  have HL : Hid (decide ((R.length : Int) ≤ 200) = decide (R.length ≤ 200)) := by
    unfold Hid
    by_cases e : R.length ≤ 200
    · rw [decide_eq_true e, decide_eq_true (by omega)]
    · rw [decide_eq_false e, decide_eq_false (by omega)]
  cases hb : fewB c
  all_goals
    rw [hb] at C
    clear hb
    go_enter Try.func9, Try.ntmps9
    go_wp2_with (go_at_call 24; refine C.out.mono ?_; rintro e w2 ⟨rfl, q2⟩)
    go_ret
    exact ⟨by first | rfl | (rw [← HL.out]; rfl), q0.trans q2⟩

set_option maxRecDepth 100000 in
set_option maxHeartbeats 2000000 in
theorem right5_any (R : List Int) (c : Cells) (A D E F : Option Addr) (n1 k1 n2 k2 n3 k3 n4 k4 : Nat) (w : World) (h1 : n1 = c.V.length) (h2 : n2 = c.N.length) (h3 : n3 = c.M.length) (h4 : n4 = R.length) (h : Rd w c A k1 D k2 E k3) (hR : Rds w w.heap.size F (cellsI R)) (hf : Few c 1000000) :
    Calls Try.prog 10 #[.agg #[.slice A n1 k1, .slice D n2 k2, .slice E n3 k3], .slice F n4 k4] w fun e w' => e = .returned (.bool (clB R c.V && rightB c)) ∧ Q w w' := by
  subst h1 h2 h3 h4
  have Hf := Lib.hid hf
  obtain ⟨fv, fn, fm⟩ := hf
  have q0 := (Q.refl w).alloc (Obj.cells #[Value.slice A c.V.length k1, Value.slice D c.N.length k2, Value.slice E c.M.length k3] 25)
  have HB := Lib.hid (Box3.new w (Value.slice A c.V.length k1) (Value.slice D c.N.length k2) (Value.slice E c.M.length k3) 25)
  have HR := Lib.hid (h.q q0)
  have HRk := Lib.hid (hR.q q0)
  clear h hR
  go_enter Try.func10, Try.ntmps10
  go_wp2_with fail
  generalize w.alloc (Obj.cells #[Value.slice A c.V.length k1, Value.slice D c.N.length k2, Value.slice E c.M.length k3] 25) = W0 at *
  have b0 := HB.out.c0
  have b1 := HB.out.c1
  have b2 := HB.out.c2
  go_loopw [5] (fun i wr => ∃ k : Nat, k ≤ c.V.length ∧ i = .int .i64 k ∧ Hid (∀ n, n < k → okB R c.V n = true) ∧ W0 = wr) (fun i _ => c.V.length - (intOf i).toNat)
  case atStart => exact ⟨0, Nat.zero_le _, rfl, Lib.hid (fun n hn => absurd hn (by omega)), rfl⟩
  case round =>
    obtain ⟨k, hk, rfl, HH, rfl⟩ := hrel
    by_cases hlt : k < c.V.length
    · obtain ⟨ad, e, hb, c0⟩ := HR.out.v.int_at hlt
      have HE := Lib.hid e
      clear e
      have hget : c.V.getD k 0 = c.V[k] := by rw [List.getD_eq_getElem?_getD, List.getElem?_eq_getElem hlt]; rfl
      have HO : Hid (okB R c.V k = ((c.V[k] == (k : Int)) || (decide (0 ≤ c.V[k]) && decide (c.V[k] < c.V.length) && lessB R c.V[k] k))) := by unfold Hid okB; rw [hget]
      clear hget
      have HN : Hid (okB R c.V k = true → ∀ n, n < k + 1 → okB R c.V n = true) := fun hk n hn => by
        by_cases e : n = k
        · subst e; exact hk
        · exact HH.out n (by omega)
      have HZ : Hid (okB R c.V k = false → clB R c.V = false) := fun hk => decide_eq_false (fun h => by have := h k hlt; rw [hk] at this; cases this)
      have b0' : W0.cell? ⟨w.heap.size, 0, none⟩ = some (.slice (some ad) c.V.length k1) := by rw [← HE.out]; exact b0
      generalize c.V[k] = x at *
      by_cases x1 : x = (k : Int)
      · have HK := HN.out (by rw [HO.out, x1]; simp)
        have d1 : (x == (k : Int)) = true := by simpa using x1
        have HK := Lib.hid HK
        clear x1 b0
        go_wp2_with fail
        go_roundw
        case rel => exact ⟨k + 1, by omega, by go_num, HK, trivial⟩
        case measure => simp [intOf]; omega
      · have d1 : (x == (k : Int)) = false := by simpa using x1
        have HO : Hid (okB R c.V k = (decide (0 ≤ x) && decide (x < c.V.length) && lessB R x k)) := by have := HO.out; rw [d1, Bool.false_or] at this; exact this
        clear x1
        by_cases x2 : x < 0
        · have HF := Lib.hid (HZ.out (by rw [HO.out, decide_eq_false (by omega)]; rfl))
          have d2 : decide (x < 0) = true := decide_eq_true x2
          clear x2 b0
          go_wp2_with fail
          go_ret
          exact ⟨by rw [HF.out]; rfl, q0⟩
        · have d2 : decide (x < 0) = false := decide_eq_false x2
          by_cases x3 : (c.V.length : Int) ≤ x
          · have HF := Lib.hid (HZ.out (by rw [HO.out, decide_eq_false (show ¬ x < (c.V.length : Int) by omega), Bool.and_false]; rfl))
            have d3 : decide ((c.V.length : Int) ≤ x) = true := decide_eq_true x3
            clear x2 x3 b0
            go_wp2_with fail
            go_ret
            exact ⟨by rw [HF.out]; rfl, q0⟩
          · have d3 : decide ((c.V.length : Int) ≤ x) = false := decide_eq_false x3
            have C := Lib.hid (refLess_any R F _ k4 x k W0 rfl HRk.out)
            cases hls : lessB R x k
            · have HF := Lib.hid (HZ.out (by rw [HO.out, hls, Bool.and_false]))
              rw [hls] at C
              clear x2 x3 b0 hls
              go_wp2_with (go_at_call 25; refine C.out.mono ?_; rintro e w2 ⟨rfl, rfl⟩)
              go_ret
              exact ⟨by rw [HF.out]; rfl, q0⟩
            · have HK := Lib.hid (HN.out (by rw [HO.out, hls, decide_eq_true (show (0 : Int) ≤ x by omega), decide_eq_true (show x < (c.V.length : Int) by omega)]; rfl))
              rw [hls] at C
              clear x2 x3 b0 hls
              go_wp2_with (go_at_call 25; refine C.out.mono ?_; rintro e w2 ⟨rfl, rfl⟩)
              go_roundw
              case rel => exact ⟨k + 1, by omega, by go_num, HK, trivial⟩
              case measure => simp [intOf]; omega
    · have HT : Hid (clB R c.V = true) := decide_eq_true (fun n hn => HH.out n (by omega))
      have C := Lib.hid (refRight_any c A D E _ k1 _ k2 _ k3 W0 rfl rfl rfl HR.out Hf.out)
      go_wp2_with (go_at_call 26; refine C.out.mono ?_; rintro e w2 ⟨rfl, q2⟩)
      go_ret
      exact ⟨by rw [HT.out]; rfl, q0.trans q2⟩
end Go.Proofs.Ytodmompfnlcjpaa.Uf
