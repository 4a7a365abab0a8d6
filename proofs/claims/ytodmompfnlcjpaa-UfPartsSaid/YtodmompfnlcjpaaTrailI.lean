/-
  Contracts of takeBack over how many cells are left, and of Right, of cells that are right.
-/
import Derived.Test.YtodmompfnlcjpaaTrailB
namespace Go.Proofs.Ytodmompfnlcjpaa.Tr
open Go.RowKit Kit

theorem cntR_at (N : List Note) (k : Nat) (h : k < N.length) (m : Nat) : cntR (N.take (k + 1)).reverse m = if ok1 N[k].1 m then cntR (N.take k).reverse (cnt1 N[k].1 m).toNat else none := by rw [take_rev N k h]; rfl
theorem cnt1_nat {a : Int} {m : Nat} (h : ok1 a m = true) : 0 ≤ cnt1 a m ∧ cnt1 a m ≤ m := by
  unfold ok1 at h
  unfold cnt1
  by_cases e : a = -1
  · rw [if_pos e] at h ⊢
    have := of_decide_eq_true h
    omega
  · rw [if_neg e]; omega

set_option maxRecDepth 100000 in
set_option maxHeartbeats 1000000 in
theorem takeI_any (ns : List Note) (M : Nat) (A : Option Addr) (n c : Nat) (w : World) (hn : n = ns.length) (hr : Rds w w.heap.size A (cellsP ns)) (hl : M ≤ 1000000) (hnl : ns.length ≤ 1000000) (h : (cntR ns.reverse M).isSome = true) :
    Calls Try.prog 51 #[.slice A n c, .int .i64 (M : Int), .func (.func 50) #[] #[]] w fun e w' => (∃ m : Int, e = .returned (.tuple #[.int .i64 m, .bool true])) ∧ Q w w' := by
  subst hn
  have HR := Lib.hid hr
  have Hh : Hid ((cntR (ns.take ns.length).reverse M).isSome = true) := by rw [List.take_length]; exact Lib.hid h
  clear hr h
  go_enter Try.func51, Try.ntmps51
  go_wp2_with fail
  go_loopw [1, 8, 9] (fun now ok i wr => ∃ (v : Nat) (k : Nat) (j : Int), k ≤ ns.length ∧ i = .int .i64 j ∧ Hid (j = (k : Int) - 1) ∧ ok = .bool true ∧ now = .int .i64 (v : Int) ∧ v ≤ 1000000 ∧ Hid (Q w wr) ∧ Hid ((cntR (ns.take k).reverse v).isSome = true)) (fun _ _ i _ => (intOf i + 1).toNat)
  case atStart => exact ⟨M, ns.length, _, Nat.le_refl _, rfl, Lib.hid rfl, rfl, rfl, hl, Lib.hid (Q.refl w), Hh⟩
  case round =>
    clear Hh
    obtain ⟨v, k, j, hk, rfl, HJ, rfl, rfl, hvl, HG, HH⟩ := hrel
    rcases k with _ | k
    · obtain rfl : j = -1 := by have := HJ.out; simpa using this
      go_wp2_with fail
      go_ret2
      exact ⟨⟨_, rfl⟩, HG.out⟩
    · obtain rfl : j = (k : Int) := by have := HJ.out; omega
      have hkl : k < ns.length := by omega
      have HS := HH.out
      rw [cntR_at ns k hkl] at HS
      cases he : ok1 ns[k].1 v with
      | false => rw [he] at HS; cases HS
      | true =>
        rw [he] at HS
        have HS' : Hid ((cntR (ns.take k).reverse (cnt1 ns[k].1 v).toNat).isSome = true) := HS
        have He := Lib.hid he
        obtain ⟨h1, h2⟩ := cnt1_nat he
        obtain ⟨u, hu⟩ : ∃ u : Nat, cnt1 ns[k].1 v = u := ⟨_, (Int.toNat_of_nonneg h1).symm⟩
        have Hu := Lib.hid hu
        have hul : u ≤ 1000000 := by omega
        obtain ⟨ad, e, hb, c0, c1⟩ := (HR.out.q HG.out).pair_at hkl
        have HE := Lib.hid e
        clear HS he e hu h1 h2
        have hj0 : (0 : Int) ≤ (k : Int) := Int.natCast_nonneg _
        rw [HE.out]
        go_wp2_with fail
        refine (count_any ns[k] v _ hvl).mono ?_
        rintro e w1 ⟨rfl, q1⟩
        rw [He.out, Hu.out]
        go_wp2_with fail
        go_roundw
        case rel => exact ⟨u, k, _, by omega, rfl, Lib.hid (by omega), rfl, rfl, hul, Lib.hid (HG.out.trans q1), by have := HS'.out; rw [Hu.out] at this; exact Lib.hid this⟩
        case measure => simp [intOf]

set_option maxRecDepth 100000 in
set_option maxHeartbeats 1000000 in
theorem right_true (c : Cells) (A D E : Option Addr) (n1 k1 n2 k2 n3 k3 : Nat) (w : World) (h1 : n1 = c.V.length) (h2 : n2 = c.N.length) (h3 : n3 = c.M.length) (h : Rd w c A k1 D k2 E k3) (hf : Few c 1000000) (hR : rightB c = true) :
    Calls Try.prog 41 #[.agg #[.slice A n1 k1, .slice D n2 k2, .slice E n3 k3]] w fun e w' => e = .returned (.bool true) ∧ Q w w' := by
  subst h1 h2 h3
  obtain ⟨fv, fn, fm⟩ := hf
  unfold rightB at hR
  rw [Bool.and_eq_true] at hR
  obtain ⟨hM, hN⟩ := hR
  have HN : Hid ((cntR c.N.reverse c.V.length).isSome = true) := by
    unfold Hid
    rw [← backR_cnt]
    unfold backs at hN
    cases e : backR c.N.reverse c.V with
    | none => rw [e] at hN; cases hN
    | some _ => rfl
  have HM := Lib.hid hM
  have q0 := (Q.refl w).alloc (Obj.cells #[Value.slice A c.V.length k1, Value.slice D c.N.length k2, Value.slice E c.M.length k3] 25)
  have HB := Lib.hid (Box3.new w (Value.slice A c.V.length k1) (Value.slice D c.N.length k2) (Value.slice E c.M.length k3) 25)
  have HR := Lib.hid (h.q q0)
  clear h hM hN
  go_enter Try.func41, Try.ntmps41
  go_wp2_with fail
  generalize w.alloc (Obj.cells #[Value.slice A c.V.length k1, Value.slice D c.N.length k2, Value.slice E c.M.length k3] 25) = W0 at *
  have b0 := HB.out.c0
  have b1 := HB.out.c1
  go_loopw [3, 11] (fun least i wr => ∃ (k : Nat) (p : Int), k ≤ c.M.length ∧ i = .int .i64 k ∧ least = .int .i64 p ∧ Hid (mkB c.N.length p (c.M.drop k) = true) ∧ W0 = wr) (fun _ i _ => c.M.length - (intOf i).toNat)
  case atStart => exact ⟨0, 0, Nat.zero_le _, rfl, rfl, HM, rfl⟩
  case round =>
    clear HM
    obtain ⟨k, p, hk, rfl, rfl, HH, rfl⟩ := hrel
    by_cases hlt : k < c.M.length
    · have HS := HH.out
      rw [mkB_at _ _ _ k hlt] at HS
      simp only [Bool.and_eq_true, decide_eq_true_eq] at HS
      obtain ⟨⟨s1, s2⟩, s3⟩ := HS
      have d1 : decide (c.M[k] < p) = false := decide_eq_false (by omega)
      have d2 : decide ((c.N.length : Int) < c.M[k]) = false := decide_eq_false (by omega)
      have S3 := Lib.hid s3
      obtain ⟨ad, e, hb, c0⟩ := HR.out.m.int_at hlt
      have HE := Lib.hid e
      clear s1 s2 s3 e
      rw [HE.out]
      go_wp2_with fail
      go_roundw
      case rel => exact ⟨k + 1, _, by omega, by go_num, rfl, S3, trivial⟩
      case measure => simp [intOf]; omega
    · go_wp2_with fail
      refine (takeI_any c.N c.V.length D _ k2 _ rfl HR.out.n fv fn HN.out).mono ?_
      rintro e w1 ⟨⟨m, rfl⟩, q1⟩
      go_wp2_with fail
      go_ret
      exact ⟨rfl, q0.trans q1⟩
end Go.Proofs.Ytodmompfnlcjpaa.Tr
