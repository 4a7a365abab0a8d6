/-
  What the proofs lean on, part 6 of 17.
-/
import Derived.Test.YtjmopbimleoidaaGreatPb
import Derived.Test.YtjmopbimleoidaaGreatPc
import Derived.Test.YtjmopbimleoidaaGreatPe
import Derived.Deep.SlicePairs
import Derived.Deep.Matrix
import Derived.Lib.SmallJoins
import Derived.SizedLaws
import Derived.Laws.EntriesVeiled
namespace Go.Proofs.YtjmopbimleoidaaGreat.Tr
open Go.RowKit Kit

theorem cntR_at (N : List Note) (k : Nat) (h : k < N.length) (m : Nat) : cntR (N.take (k + 1)).reverse m = if ok1 N[k].1 m then cntR (N.take k).reverse (cnt1 N[k].1 m).toNat else none := by rw [take_rev N k h]; rfl
theorem cnt1_nat {a : Int} {m : Nat} (h : ok1 a m = true) : 0 ≤ cnt1 a m ∧ cnt1 a m ≤ m := by
  unfold ok1 at h
  unfold cnt1
  by_cases e : a = -1
  · rw [if_pos e] at h ⊢
    have := of_decide_eq_true h
    omega
  · rw [if_neg e]; omega

set_option maxRecDepth 100000 in
set_option maxHeartbeats 1000000 in
theorem takeI_any (ns : List Note) (M : Nat) (A : Option Addr) (n c : Nat) (w : World) (hn : n = ns.length) (hr : Rds w w.heap.size A (cellsP ns)) (hl : M ≤ 1000000) (hnl : ns.length ≤ 1000000) (h : (cntR ns.reverse M).isSome = true) :
    Calls Tryz.prog 146 #[.slice A n c, .int .i64 (M : Int), .func (.func 147) #[] #[]] w fun e w' => (∃ m : Int, e = .returned (.tuple #[.int .i64 m, .bool true])) ∧ Q w w' := by
  subst hn
  have HR := Lib.hid hr
  have Hh : Hid ((cntR (ns.take ns.length).reverse M).isSome = true) := by rw [List.take_length]; exact Lib.hid h
  clear hr h
  go_enter Tryz.func146, Tryz.ntmps146
  go_wp2_with fail
  go_loopw [1, 8, 9] (fun now ok i wr => ∃ (v : Nat) (k : Nat) (j : Int), k ≤ ns.length ∧ i = .int .i64 j ∧ Hid (j = (k : Int) - 1) ∧ ok = .bool true ∧ now = .int .i64 (v : Int) ∧ v ≤ 1000000 ∧ Hid (Q w wr) ∧ Hid ((cntR (ns.take k).reverse v).isSome = true)) (fun _ _ i _ => (intOf i + 1).toNat)
  case atStart => exact ⟨M, ns.length, _, Nat.le_refl _, rfl, Lib.hid rfl, rfl, rfl, hl, Lib.hid (Q.refl w), Hh⟩
  case round =>
    clear Hh
    obtain ⟨v, k, j, hk, rfl, HJ, rfl, rfl, hvl, HG, HH⟩ := hrel
    rcases k with _ | k
    · obtain rfl : j = -1 := by have := HJ.out; simpa using this
      go_wp2_with fail
      go_ret2
      exact ⟨⟨_, rfl⟩, HG.out⟩
    · obtain rfl : j = (k : Int) := by have := HJ.out; omega
      have hkl : k < ns.length := by omega
      have HS := HH.out
      rw [cntR_at ns k hkl] at HS
      cases he : ok1 ns[k].1 v with
      | false => rw [he] at HS; cases HS
      | true =>
        rw [he] at HS
        have HS' : Hid ((cntR (ns.take k).reverse (cnt1 ns[k].1 v).toNat).isSome = true) := HS
        have He := Lib.hid he
        obtain ⟨h1, h2⟩ := cnt1_nat he
        obtain ⟨u, hu⟩ : ∃ u : Nat, cnt1 ns[k].1 v = u := ⟨_, (Int.toNat_of_nonneg h1).symm⟩
        have Hu := Lib.hid hu
        have hul : u ≤ 1000000 := by omega
        obtain ⟨ad, e, hb, c0, c1⟩ := (HR.out.q HG.out).pair_at hkl
        have HE := Lib.hid e
        clear HS he e hu h1 h2
        have hj0 : (0 : Int) ≤ (k : Int) := Int.natCast_nonneg _
        rw [HE.out]
        go_wp2_with fail
        refine (count_any ns[k] v _ hvl).mono ?_
        rintro e w1 ⟨rfl, q1⟩
        rw [He.out, Hu.out]
        go_wp2_with fail
        go_roundw
        case rel => exact ⟨u, k, _, by omega, rfl, Lib.hid (by omega), rfl, rfl, hul, Lib.hid (HG.out.trans q1), by have := HS'.out; rw [Hu.out] at this; exact Lib.hid this⟩
        case measure => simp [intOf]

set_option maxRecDepth 100000 in
set_option maxHeartbeats 1000000 in
theorem right_true (c : Cells) (A D E : Option Addr) (n1 k1 n2 k2 n3 k3 : Nat) (w : World) (h1 : n1 = c.V.length) (h2 : n2 = c.N.length) (h3 : n3 = c.M.length) (h : Rd w c A k1 D k2 E k3) (hf : Few c 1000000) (hR : rightB c = true) :
    Calls Tryz.prog 113 #[.agg #[.slice A n1 k1, .slice D n2 k2, .slice E n3 k3]] w fun e w' => e = .returned (.bool true) ∧ Q w w' := by
  subst h1 h2 h3
  obtain ⟨fv, fn, fm⟩ := hf
  unfold rightB at hR
  rw [Bool.and_eq_true] at hR
  obtain ⟨hM, hN⟩ := hR
  have HN : Hid ((cntR c.N.reverse c.V.length).isSome = true) := by
    unfold Hid
    rw [← backR_cnt]
    unfold backs at hN
    cases e : backR c.N.reverse c.V with
    | none => rw [e] at hN; cases hN
    | some _ => rfl
  have HM := Lib.hid hM
  have q0 := (Q.refl w).alloc (Obj.cells #[Value.slice A c.V.length k1, Value.slice D c.N.length k2, Value.slice E c.M.length k3] 29)
  have HB := Lib.hid (Box3.new w (Value.slice A c.V.length k1) (Value.slice D c.N.length k2) (Value.slice E c.M.length k3) 29)
  have HR := Lib.hid (h.q q0)
  clear h hM hN
  go_enter Tryz.func113, Tryz.ntmps113
  go_wp2_with fail
  generalize w.alloc (Obj.cells #[Value.slice A c.V.length k1, Value.slice D c.N.length k2, Value.slice E c.M.length k3] 29) = W0 at *
  have b0 := HB.out.c0
  have b1 := HB.out.c1
  go_loopw [3, 11] (fun least i wr => ∃ (k : Nat) (p : Int), k ≤ c.M.length ∧ i = .int .i64 k ∧ least = .int .i64 p ∧ Hid (mkB c.N.length p (c.M.drop k) = true) ∧ W0 = wr) (fun _ i _ => c.M.length - (intOf i).toNat)
  case atStart => exact ⟨0, 0, Nat.zero_le _, rfl, rfl, HM, rfl⟩
  case round =>
    clear HM
    obtain ⟨k, p, hk, rfl, rfl, HH, rfl⟩ := hrel
    by_cases hlt : k < c.M.length
    · have HS := HH.out
      rw [mkB_at _ _ _ k hlt] at HS
      simp only [Bool.and_eq_true, decide_eq_true_eq] at HS
      obtain ⟨⟨s1, s2⟩, s3⟩ := HS
      have d1 : decide (c.M[k] < p) = false := decide_eq_false (by omega)
      have d2 : decide ((c.N.length : Int) < c.M[k]) = false := decide_eq_false (by omega)
      have S3 := Lib.hid s3
      obtain ⟨ad, e, hb, c0⟩ := HR.out.m.int_at hlt
      have HE := Lib.hid e
      clear s1 s2 s3 e
      rw [HE.out]
      go_wp2_with fail
      go_roundw
      case rel => exact ⟨k + 1, _, by omega, by go_num, rfl, S3, trivial⟩
      case measure => simp [intOf]; omega
    · go_wp2_with fail
      refine (takeI_any c.N c.V.length D _ k2 _ rfl HR.out.n fv fn HN.out).mono ?_
      rintro e w1 ⟨⟨m, rfl⟩, q1⟩
      go_wp2_with fail
      go_ret
      exact ⟨rfl, q0.trans q1⟩
end Go.Proofs.YtjmopbimleoidaaGreat.Tr

namespace Go.Proofs.YtjmopbimleoidaaGreat.Tr
open Go.RowKit Kit

set_option maxRecDepth 100000 in
set_option maxHeartbeats 4000000 in
theorem refRight_any (c : Cells) (A D E : Option Addr) (n1 k1 n2 k2 n3 k3 : Nat) (w : World) (h1 : n1 = c.V.length) (h2 : n2 = c.N.length) (h3 : n3 = c.M.length) (h : Rd w c A k1 D k2 E k3) (hf : Few c 1000000) :
    Calls Tryz.prog 93 #[.agg #[.slice A n1 k1, .slice D n2 k2, .slice E n3 k3]] w fun e w' => e = .returned (.bool (rightB c)) ∧ Q w w' := by
  subst h1 h2 h3
  have Hf := Lib.hid hf
  obtain ⟨fv, fn, fm⟩ := hf
  have q0 := (Q.refl w).alloc (Obj.cells #[Value.slice A c.V.length k1, Value.slice D c.N.length k2, Value.slice E c.M.length k3] 29)
  have HB := Lib.hid (Box3.new w (Value.slice A c.V.length k1) (Value.slice D c.N.length k2) (Value.slice E c.M.length k3) 29)
  have HR := Lib.hid (h.q q0)
  clear h
  go_enter Tryz.func93, Tryz.ntmps93
  go_wp2_with fail
  generalize w.alloc (Obj.cells #[Value.slice A c.V.length k1, Value.slice D c.N.length k2, Value.slice E c.M.length k3] 29) = W0 at *
  go_loopw [3] (fun i wr => ∃ (k : Nat) (p : Int), k ≤ c.M.length ∧ i = .int .i64 k ∧ Hid (rightB c = (mkB c.N.length p (c.M.drop k) && (backs c.N c.V).isSome)) ∧ Hid (0 ≤ p ∧ (p = 0 ∧ k = 0 ∨ 0 < k ∧ c.M[k - 1]? = some p)) ∧ Hid (∃ d, wr = W0.drewN d)) (fun i _ => c.M.length - (intOf i).toNat)
  case atStart => exact ⟨0, 0, Nat.zero_le _, rfl, Lib.hid rfl, Lib.hid ⟨by omega, .inl ⟨rfl, rfl⟩⟩, Lib.hid ⟨0, rfl⟩⟩
  case round =>
    obtain ⟨k, p, hk, rfl, HH, HP, HD⟩ := hrel
    have qr := Lib.hid (q_drewN W0 HD.out)
    have b1 := (HB.out.q qr.out).c1
    have b2 := (HB.out.q qr.out).c2
    by_cases hlt : k < c.M.length
    · have HS := HH.out
      rw [mkB_at _ _ _ k hlt] at HS
      obtain ⟨ad, e, hb, c0⟩ := (HR.out.m.q qr.out).int_at hlt
      rw [e] at b2
      have HE := Lib.hid e
      clear e
      have j0 : (0 : Int) ≤ (k : Int) := Int.natCast_nonneg _
      have j1 : (k : Int) < (c.M.length : Int) := by omega
      obtain ⟨x, hx⟩ : ∃ x, x = c.M[k] := ⟨_, rfl⟩
      have HX := Lib.hid hx
      rw [← hx] at HS c0
      clear hx
      have stop : ∀ b : Bool, Hid (rightB c = b) → Hid (rightB c = b) := fun _ h => h
      by_cases x0 : x < 0
      · have HF : Hid (rightB c = false) := by
          rw [decide_eq_false (show ¬ p ≤ x by have := HP.out.1; omega)] at HS; exact Lib.hid HS
        have d1 : decide (x < 0) = true := decide_eq_true x0
        clear HS x0
        go_wp2_with fail
        go_quiet (fail)
        go_wp2_with fail
        go_ret
        exact ⟨by rw [HF.out]; rfl, q0.trans (q_drewN W0 (by obtain ⟨d, rfl⟩ := HD.out; exact ⟨_, drewN_add _ _ _⟩))⟩
      · have d1 : decide (x < 0) = false := decide_eq_false x0
        by_cases x1 : (c.N.length : Int) < x
        · have HF : Hid (rightB c = false) := by
            rw [decide_eq_false (show ¬ x ≤ (c.N.length : Int) by omega), Bool.and_false] at HS; exact Lib.hid HS
          have d2 : decide ((c.N.length : Int) < x) = true := decide_eq_true x1
          clear HS x0 x1
          go_wp2_with fail
          go_quiet (fail)
          go_wp2_with fail
          go_ret
          exact ⟨by rw [HF.out]; rfl, q0.trans (q_drewN W0 (by obtain ⟨d, rfl⟩ := HD.out; exact ⟨_, drewN_add _ _ _⟩))⟩
        · have d2 : decide ((c.N.length : Int) < x) = false := decide_eq_false x1
          rw [decide_eq_true (show x ≤ (c.N.length : Int) by omega), Bool.and_true] at HS
          rcases k with _ | k
          · have HF : Hid (rightB c = (mkB c.N.length x (c.M.drop (0 + 1)) && (backs c.N c.V).isSome)) := by
              rw [decide_eq_true (show p ≤ x by have := HP.out.2; omega), Bool.true_and] at HS; exact Lib.hid HS
            have HP' : Hid (0 ≤ x ∧ (x = 0 ∧ 0 + 1 = 0 ∨ 0 < 0 + 1 ∧ c.M[0 + 1 - 1]? = some x)) := ⟨by omega, .inr ⟨by omega, by rw [HX.out]; exact List.getElem?_eq_getElem hlt⟩⟩
            have c0' : wr.cell? ad = some (.int .i64 x) := by have := c0; simpa [Addr.add] using this
            have j1' : (0 : Int) < (c.M.length : Int) := by omega
            clear HS x0 x1 c0
            go_wp2_with fail
            go_quiet (fail)
            go_wp2_with fail
            go_roundw
            case rel => exact ⟨0 + 1, x, by omega, by go_num, HF, HP', Lib.hid (by obtain ⟨d, rfl⟩ := HD.out; exact ⟨_, drewN_add _ _ _⟩)⟩
            case measure => simp [intOf]; omega
          · have hp : c.M[k]? = some p := by
              rcases HP.out.2 with ⟨_, h⟩ | ⟨_, h⟩
              · omega
              · simpa using h
            have hk' : k < c.M.length := by omega
            have hpe : c.M[k] = p := by rw [List.getElem?_eq_getElem hk'] at hp; injection hp
            obtain ⟨ad', e', _, c1⟩ := (HR.out.m.q qr.out).int_at hk'
            have hadd : ad' = ad := by rw [HE.out] at e'; injection e' with e'; exact e'.symm
            rw [hadd, hpe] at c1
            clear hadd e' hp hpe hk'
            have c0' : wr.cell? ⟨ad.block, ad.off + (k + 1), none⟩ = some (.int .i64 x) := by have := c0; simpa [Addr.add] using this
            have j2 : ((k : Int) + 1 - 1) = (k : Int) := by omega
            have j3 : decide (0 < (k : Int) + 1) = true := decide_eq_true (by omega)
            have j5 : ((k : Int) + 1).toNat = k + 1 := by omega
            have j6 : (k : Int) + 1 < (c.M.length : Int) := by omega
            have j7 : (0 : Int) ≤ (k : Int) + 1 := by omega
            have j8 : (k : Int) < (c.M.length : Int) := by omega
            have j9 : IntKind.i64.wrap (k : Int) = (k : Int) := IntWalk.i64_in _ (by omega)
            have j10 : (0 : Int) ≤ (k : Int) := by omega
            have j4 : IntKind.i64.wrap ((k : Int) + 1 - 1) = (k : Int) := by rw [j2]; exact IntWalk.i64_in _ (by omega)
            by_cases x2 : x < p
            · have HF : Hid (rightB c = false) := by
                rw [decide_eq_false (show ¬ p ≤ x by omega)] at HS; exact Lib.hid HS
              have d3 : decide (x < p) = true := decide_eq_true x2
              clear HS x0 x1 x2
              go_wp2_with fail
              go_quiet (fail)
              go_wp2_with fail
              go_ret
              exact ⟨by rw [HF.out]; rfl, q0.trans (q_drewN W0 (by obtain ⟨d, rfl⟩ := HD.out; exact ⟨_, drewN_add _ _ _⟩))⟩
            · have HF : Hid (rightB c = (mkB c.N.length x (c.M.drop (k + 1 + 1)) && (backs c.N c.V).isSome)) := by
                rw [decide_eq_true (show p ≤ x by omega), Bool.true_and] at HS; exact Lib.hid HS
              have HP' : Hid (0 ≤ x ∧ (x = 0 ∧ k + 1 + 1 = 0 ∨ 0 < k + 1 + 1 ∧ c.M[k + 1 + 1 - 1]? = some x)) := ⟨by omega, .inr ⟨by omega, by rw [HX.out]; exact List.getElem?_eq_getElem hlt⟩⟩
              have d3 : decide (x < p) = false := decide_eq_false x2
              clear HS x0 x1 x2
              go_wp2_with fail
              go_quiet (fail)
              go_wp2_with fail
              go_roundw
              case rel => exact ⟨k + 1 + 1, x, by omega, by go_num, HF, HP', Lib.hid (by obtain ⟨d, rfl⟩ := HD.out; exact ⟨_, drewN_add _ _ _⟩)⟩
              case measure => simp [intOf]; omega
    · obtain rfl : k = c.M.length := by omega
      have HF : Hid (rightB c = (backs c.N c.V).isSome) := by have := HH.out; rw [mkB_end _ _ _ _ (Nat.le_refl _), Bool.true_and] at this; exact Lib.hid this
      have b0 := (HB.out.q qr.out).c0
      go_wp2_with fail
      refine (refCells_any c _ _ _ _ _ _ _ _ _ _ rfl rfl rfl (HR.out.q qr.out) Hf.out).mono ?_
      rintro e w1 ⟨v, rfl, q1⟩
      go_wp2_with fail
      go_ret
      exact ⟨by rw [HF.out]; rfl, q0.trans (qr.out.trans q1)⟩
end Go.Proofs.YtjmopbimleoidaaGreat.Tr

namespace Go.Proofs.YtjmopbimleoidaaGreat.Tr
open Go.RowKit Kit

def growC (c : Cells) (x : Int) : Cells := ⟨c.V ++ [x], c.N ++ [(-1, 0)], c.M⟩

end Go.Proofs.YtjmopbimleoidaaGreat.Tr

namespace Go.Proofs.YtjmopbimleoidaaGreat.Tr
open Go.ChangeShapes Go.WideShapes Go.RowKit Kit Go.Deep Go.Joins

theorem bytes_int : Tryz.prog.bytesOf 3 = 8 := by kernel_rfl
theorem bytes_note : Tryz.prog.bytesOf 113 = 16 := by kernel_rfl
theorem cells_int : Tryz.prog.cellsOf 3 = 1 := by kernel_rfl
section
variable {H : Type} {enc : TypeId × Value → H} {W : World} {base : Nat}
theorem open_ints_cells {fuel : Nat} {v : Value} {x : DataW H × List MemPlace} (h : DataW.trod enc Tryz.prog W 0 (fun _ => true) true fuel 24 [v] = some x) (hz : ∀ n ∈ x.1.weights Tryz.prog 24, n ≤ reachBytes) :
    ∃ A n c l, v = .slice A n c ∧ n = l.length ∧ n ≤ c ∧ Rds W W.heap.size A (cellsI l) ∧ l.length ≤ 1152921504606846976 := by
  rcases open_ints Tryz.underlying24 Tryz.underlying3 cells_int h with ⟨hcs, hx⟩ | ⟨a, len, cap, zs, hcs, _, hl, _, hlen, hx, hcell, _⟩
  · obtain rfl : v = .slice none 0 0 := by simpa using hcs
    exact ⟨none, 0, 0, [], rfl, rfl, Nat.le_refl _, Rds.nil _ _ _, by simp⟩
  · obtain rfl : v = .slice (some a) len cap := by simpa using hcs
    simp only [if_true] at hlen
    have hw : (((lits .i64 (zs.take len) : List (DataW H))).length + ((lits .i64 (zs.drop len) : List (DataW H))).length) * Tryz.prog.bytesOf 3 ≤ reachBytes := by
      refine hz _ ?_
      rw [hx]
      simp [DataW.weights, Tryz.underlying24]
    rw [bytes_int] at hw
    have hll : (zs.take len).length = len := by rw [List.length_take, hlen]; omega
    refine ⟨_, _, _, zs.take len, rfl, hll.symm, hl, fun h0 => ⟨a, rfl, ?_, fun i y hy => ?_⟩, ?_⟩
    · have := hcell 0 (by rw [cellsI_len] at h0; omega)
      have := World.block_lt_of_cell? W _ this
      rwa [add_block] at this
    · unfold cellsI at hy
      rw [List.getElem?_map, Option.map_eq_some_iff] at hy
      obtain ⟨z, hz', rfl⟩ := hy
      have hi : i < len := by have := (List.getElem?_eq_some_iff.1 hz').1; omega
      rw [List.getElem?_take, if_pos hi] at hz'
      rw [hcell i (by omega)]
      simp [hz']
    · simp [lits, reachBytes] at hw
      rw [hll]; omega
theorem open_notes_cells {fuel : Nat} {v : Value} {x : DataW H × List MemPlace} (h : DataW.trod enc Tryz.prog W 0 (fun _ => true) true fuel 27 [v] = some x) (hz : ∀ n ∈ x.1.weights Tryz.prog 27, n ≤ reachBytes) :
    ∃ A n c l, v = .slice A n c ∧ n = l.length ∧ n ≤ c ∧ Rds W W.heap.size A (cellsP l) ∧ l.length ≤ 1152921504606846976 := by
  rcases open_slice_pairs Tryz.underlying27 Tryz.underlying113 (by kernel_rfl) rfl rfl (by kernel_rfl) (by kernel_rfl) h with ⟨hcs, _⟩ | ⟨ad, len, cap, m, n, V0, V1, D0, D1, P0, P1, hcs, _, hl, hm, hmm, hx, hi⟩
  · obtain rfl : v = .slice none 0 0 := by simpa using hcs
    exact ⟨none, 0, 0, [], rfl, rfl, Nat.le_refl _, Rds.nil _ _ _, by simp⟩
  · obtain rfl : v = .slice (some ad) len cap := by simpa using hcs
    have hw : (((List.range len).map fun i => (.agg [D0 i, D1 i] : DataW H)).length + ((List.range (m - len)).map fun j => (.agg [D0 (len + j), D1 (len + j)] : DataW H)).length) * Tryz.prog.bytesOf 113 ≤ reachBytes := by
      refine hz _ ?_
      rw [hx]
      simp [DataW.weights, Tryz.underlying27]
    rw [bytes_note] at hw
    have hlm : len ≤ m := by rw [hmm]; split <;> omega
    have each : ∀ i, i < len → ∃ s : Note, W.cell? (ad.add (i * 2)) = some (.int .i64 s.1) ∧ W.cell? (ad.add (i * 2 + 1)) = some (.int .i64 s.2) := fun i hil => by
      obtain ⟨c0, c1, t0, t1⟩ := hi i (by omega)
      obtain ⟨s0, e0, _, _⟩ := DataW.trod_int Tryz.underlying3 t0
      obtain ⟨s1, e1, _, _⟩ := DataW.trod_int Tryz.underlying3 t1
      simp only [List.cons.injEq, and_true] at e0 e1
      exact ⟨(s0, s1), by rw [c0, e0], by rw [c1, e1]⟩
    obtain ⟨q, hq⟩ := choose_lt each
    have hll : ((List.range len).map q).length = len := by simp
    refine ⟨_, _, _, (List.range len).map q, rfl, hll.symm, hl, fun h0 => ⟨ad, rfl, ?_, fun j u hj => ?_⟩, ?_⟩
    · rw [cellsP_len, hll] at h0
      have := (hq 0 (by omega)).1
      have := World.block_lt_of_cell? W _ this
      rwa [add_block] at this
    · rcases Nat.mod_two_eq_zero_or_one j with hp | hp
      · obtain ⟨i, rfl⟩ : ∃ i, j = i * 2 := ⟨j / 2, by omega⟩
        rw [cellsP_even, Option.map_eq_some_iff] at hj
        obtain ⟨s, hs, rfl⟩ := hj
        have hil : i < len := by have := (List.getElem?_eq_some_iff.1 hs).1; rw [hll] at this; exact this
        have e : s = q i := by rw [List.getElem?_map, List.getElem?_range hil] at hs; simpa using hs.symm
        rw [e]
        exact (hq i hil).1
      · obtain ⟨i, rfl⟩ : ∃ i, j = i * 2 + 1 := ⟨j / 2, by omega⟩
        rw [cellsP_odd, Option.map_eq_some_iff] at hj
        obtain ⟨s, hs, rfl⟩ := hj
        have hil : i < len := by have := (List.getElem?_eq_some_iff.1 hs).1; rw [hll] at this; exact this
        have e : s = q i := by rw [List.getElem?_map, List.getElem?_range hil] at hs; simpa using hs.symm
        rw [e]
        exact (hq i hil).2
    · simp [reachBytes] at hw
      rw [hll]; omega
set_option maxRecDepth 100000 in
theorem open_cells3 {f0 f1 f2 : Nat} {v0 v1 v2 : Value} {y0 y1 y2 : DataW H × List MemPlace} (t0 : DataW.trod enc Tryz.prog W 0 (fun _ => true) true f0 24 [v0] = some y0) (t1 : DataW.trod enc Tryz.prog W 0 (fun _ => true) true f1 27 [v1] = some y1) (t2 : DataW.trod enc Tryz.prog W 0 (fun _ => true) true f2 24 [v2] = some y2)
    (hz : ∀ n ∈ DataW.weights Tryz.prog 29 (.agg [y0.1, y1.1, y2.1]), n ≤ reachBytes) :
    ∃ c A n1 k1 D n2 k2 E n3 k3, v0 = .slice A n1 k1 ∧ v1 = .slice D n2 k2 ∧ v2 = .slice E n3 k3 ∧ n1 = c.V.length ∧ n2 = c.N.length ∧ n3 = c.M.length ∧ Rd W c A k1 D k2 E k3 ∧ Few c 1152921504606846976 := by
  have hw : DataW.weights Tryz.prog 29 (.agg [y0.1, y1.1, y2.1]) = y0.1.weights Tryz.prog 24 ++ (y1.1.weights Tryz.prog 27 ++ (y2.1.weights Tryz.prog 24 ++ [])) := by
    simp [DataW.weights, Tryz.underlying29, DataW.weightsEach]
  rw [hw] at hz
  obtain ⟨A, n1, k1, V, e0, h1, g1, r1, l1⟩ := open_ints_cells t0 (fun n hn => hz n (by simp [hn]))
  obtain ⟨D, n2, k2, N, e1, h2, g2, r2, l2⟩ := open_notes_cells t1 (fun n hn => hz n (by simp [hn]))
  obtain ⟨E, n3, k3, M, e2, h3, g3, r3, l3⟩ := open_ints_cells t2 (fun n hn => hz n (by simp [hn]))
  exact ⟨⟨V, N, M⟩, A, n1, k1, D, n2, k2, E, n3, k3, e0, e1, e2, h1, h2, h3, ⟨r1, r2, r3, by show V.length ≤ _; omega, by show N.length ≤ _; omega, by show M.length ≤ _; omega⟩, l1, l2, l3⟩
end

theorem Rds.own {w : World} {B g : Nat} {l : List Int} (h : Rds w B (some ⟨g, 0, none⟩) (cellsI l)) {k : Nat} {x : Int} (hk : l[k]? = some x) : w.cell? ⟨g, k, none⟩ = some (.int .i64 x) := by
  have hl := (List.getElem?_eq_some_iff.1 hk).1
  obtain ⟨ad, e, _, hc⟩ := h (by rw [cellsI_len]; omega)
  injection e with e
  subst e
  have := hc k (.int .i64 x) (by unfold cellsI; rw [List.getElem?_map, hk]; rfl)
  rwa [add_zero_head] at this

theorem few_set {c : Cells} {m k : Nat} (a : Nat) (x : Int) (h : Few c m) (hm : m + 1 ≤ k) : Few (setC c a x) k := ⟨by have := h.1; simp [setC]; omega, by have := h.2.1; simp [setC]; omega, by have := h.2.2; show c.M.length ≤ _; omega⟩
theorem few_more {c : Cells} {m k : Nat} (h : Few c m) (hm : m ≤ k) : Few c k := ⟨Nat.le_trans h.1 hm, Nat.le_trans h.2.1 hm, Nat.le_trans h.2.2 hm⟩
end Go.Proofs.YtjmopbimleoidaaGreat.Tr

namespace Go.Proofs.YtjmopbimleoidaaGreat.Uf
open Go.RowKit Kit Tr

theorem placeU (a m : Int) (w : World) : Calls Tryz.prog 86 #[.int .i64 a, .int .i64 m] w fun e w' => e = .returned (.bool (decide (0 ≤ a) && decide (a < m))) ∧ w = w' := by
  by_cases h : 0 ≤ a
  · have hd : decide (0 ≤ a) = true := decide_eq_true h
    rw [hd]
    go_enter Tryz.func86, Tryz.ntmps86
    go_wp2_with fail
    go_ret
    exact ⟨rfl, rfl⟩
  · have hd : decide (0 ≤ a) = false := decide_eq_false h
    rw [hd]
    go_enter Tryz.func86, Tryz.ntmps86
    go_wp2_with fail
    go_ret
    exact ⟨rfl, rfl⟩

/-- the rank, in a box -/
theorem rank_any (R : List Int) (A : Option Addr) (c B : Nat) (n : Int) (w : World) (hb : w.cell? ⟨B, 0, none⟩ = some (.slice A R.length c)) (hr : Rds w w.heap.size A (cellsI R)) :
    Calls Tryz.prog 117 #[.int .i64 n, .pointer (some ⟨B, 0, none⟩)] w fun e w' => e = .returned (.int .i64 (rk R n)) ∧ w = w' := by
  by_cases h : 0 ≤ n ∧ n < R.length
  · obtain ⟨k, rfl⟩ := Int.eq_ofNat_of_zero_le h.1
    have hk : k < R.length := by omega
    have HR : Hid (rk R (k : Int) = R[k]) := by unfold Hid rk; rw [if_pos h]; simp [hk]
    obtain ⟨ad, e, _, c0⟩ := hr.int_at hk
    rw [e] at hb
    have hd : (decide (0 ≤ (k : Int)) && decide ((k : Int) < (R.length : Int))) = true := by rw [decide_eq_true h.1, decide_eq_true h.2]; rfl
    clear h e hr
    go_enter Tryz.func117, Tryz.ntmps117
    go_wp2_with (go_at_call 86; refine (placeU _ _ _).mono ?_; rintro e w2 ⟨rfl, rfl⟩; rw [hd])
    go_ret
    exact ⟨by rw [HR.out]; rfl, rfl⟩
  · have HR : Hid (rk R n = 0) := by unfold Hid rk; rw [if_neg h]
    have hd : (decide (0 ≤ n) && decide (n < (R.length : Int))) = false := by
      by_cases e : 0 ≤ n
      · rw [decide_eq_false (fun k => h ⟨e, k⟩), Bool.and_false]
      · rw [decide_eq_false e]; rfl
    clear h hr
    go_enter Tryz.func117, Tryz.ntmps117
    go_wp2_with (go_at_call 86; refine (placeU _ _ _).mono ?_; rintro e w2 ⟨rfl, rfl⟩; rw [hd])
    go_ret
    exact ⟨by rw [HR.out]; rfl, rfl⟩

set_option maxHeartbeats 1000000 in
/-- the order, over its rank -/
theorem ahead_any (R : List Int) (A : Option Addr) (c B F : Nat) (a b : Int) (w : World) (hf : w.cell? ⟨F, 0, none⟩ = some (.func (.func 117) #[] #[.pointer (some ⟨B, 0, none⟩)])) (hb : w.cell? ⟨B, 0, none⟩ = some (.slice A R.length c)) (hr : Rds w w.heap.size A (cellsI R)) :
    Calls Tryz.prog 118 #[.int .i64 a, .int .i64 b, .pointer (some ⟨F, 0, none⟩)] w fun e w' => e = .returned (.bool (lessB R a b)) ∧ ∃ d, w' = w.drewN d := by
  have C0 : Hid (∀ (x : Int) (n : Nat), Calls Tryz.prog 117 #[.int .i64 x, .pointer (some ⟨B, 0, none⟩)] (w.drewN n) fun e w' => e = .returned (.int .i64 (rk R x)) ∧ w' = w.drewN n) := fun x n =>
    (rank_any R A c B x (w.drewN n) hb hr).mono (by rintro e w' ⟨rfl, rfl⟩; exact ⟨rfl, rfl⟩)
  by_cases h : rk R a = rk R b
  · have HR : Hid (lessB R a b = decide (a < b)) := by unfold Hid lessB; rw [if_pos h]
    have hne : (rk R a != rk R b) = false := by rw [h]; simp
    clear h
    go_enter Tryz.func118, Tryz.ntmps118
    go_wp2_with fail
    go_quiet (first | (go_at_call 117; exact Calls.quiet_of_same (C0.out _ _)))
    go_wp2_with fail
    go_ret
    exact ⟨by rw [HR.out]; rfl, _, rfl⟩
  · have HR : Hid (lessB R a b = decide (rk R a < rk R b)) := by unfold Hid lessB; rw [if_neg h]
    have hne : (rk R a != rk R b) = true := by simpa using h
    clear h
    go_enter Tryz.func118, Tryz.ntmps118
    go_wp2_with fail
    go_quiet (first | (go_at_call 117; exact Calls.quiet_of_same (C0.out _ _)))
    go_wp2_with fail
    obtain ⟨W1, hW1⟩ : ∃ W1, W1 = w.drewN nq := ⟨_, rfl⟩
    have hf1 : W1.cell? ⟨F, 0, none⟩ = some (.func (.func 117) #[] #[.pointer (some ⟨B, 0, none⟩)]) := by rw [hW1]; exact hf
    have C : Hid (∀ (x : Int) (n : Nat), Calls Tryz.prog 117 #[.int .i64 x, .pointer (some ⟨B, 0, none⟩)] (W1.drewN n) fun e w' => e = .returned (.int .i64 (rk R x)) ∧ w' = W1.drewN n) := by rw [hW1]; exact fun x n => (rank_any R A c B x ((w.drewN nq).drewN n) hb hr).mono (by rintro e w' ⟨rfl, rfl⟩; exact ⟨rfl, rfl⟩)
    rw [← hW1]
    have HW1 := Lib.hid hW1
    clear hW1 hf
    go_quiet (first | (go_at_call 117; exact Calls.quiet_of_same (C.out _ _)))
    go_wp2_with fail
    go_ret
    exact ⟨by rw [HR.out]; rfl, by rw [HW1.out, drewN_add]; exact ⟨_, rfl⟩⟩

/-- the closures of the ranks, made -/
def twoF (w : World) (A : Option Addr) (n c : Nat) : World := (w.alloc (.cells #[.slice A n c] 24)).alloc (.cells #[.func (.func 117) #[] #[.pointer (some ⟨w.heap.size, 0, none⟩)]] 127)
theorem order_any (A : Option Addr) (n c : Nat) (w : World) : Calls Tryz.prog 85 #[.slice A n c] w fun e w' => e = .returned (.func (.func 118) #[] #[.pointer (some ⟨w.heap.size + 1, 0, none⟩)]) ∧ w' = twoF w A n c := by
  go_enter Tryz.func85, Tryz.ntmps85
  go_wp2_with fail
  go_ret
  exact ⟨rfl, rfl⟩
theorem twoF_q (w : World) (A : Option Addr) (n c : Nat) : Q w (twoF w A n c) := ((Q.refl w).alloc _).alloc _
/-- the order's closure, wherever its boxes are -/
theorem aheadF (R : List Int) (A : Option Addr) (n c : Nat) (hn : n = R.length) (a b : Int) (w W : World) (hr : Rds w w.heap.size A (cellsI R)) (q : Q (twoF w A n c) W) :
    Calls Tryz.prog 118 #[.int .i64 a, .int .i64 b, .pointer (some ⟨w.heap.size + 1, 0, none⟩)] W fun e w' => e = .returned (.bool (lessB R a b)) ∧ ∃ d, w' = W.drewN d := by
  subst hn
  have h1 : (twoF w A R.length c).cell? ⟨w.heap.size + 1, 0, none⟩ = some (.func (.func 117) #[] #[.pointer (some ⟨w.heap.size, 0, none⟩)]) := by unfold twoF; rw [← World.size_alloc w (.cells #[.slice A R.length c] 24)]; simp
  have h0 : (twoF w A R.length c).cell? ⟨w.heap.size, 0, none⟩ = some (.slice A R.length c) := by unfold twoF; simp
  exact ahead_any R A c w.heap.size (w.heap.size + 1) a b W ((q.cell (p := ⟨w.heap.size + 1, 0, none⟩) (by unfold twoF; simp)).trans h1) ((q.cell (p := ⟨w.heap.size, 0, none⟩) (by unfold twoF; simp; omega)).trans h0) (hr.q ((twoF_q w A R.length c).trans q))

theorem less_any (R : List Int) (A : Option Addr) (n c : Nat) (a b : Int) (w : World) (hn : n = R.length) (hr : Rds w w.heap.size A (cellsI R)) :
    Calls Tryz.prog 40 #[.slice A n c, .int .i64 a, .int .i64 b] w fun e w' => e = .returned (.bool (lessB R a b)) ∧ Q w w' := by
  have C := Lib.hid (aheadF R A n c hn a b w _ hr (Q.refl _))
  have q := twoF_q w A n c
  subst hn
  clear hr
  go_enter Tryz.func40, Tryz.ntmps40
  go_wp2_with fail
  refine (order_any _ _ _ _).mono ?_
  rintro e w1 ⟨rfl, rfl⟩
  generalize twoF w A R.length c = W at *
  go_wp2_with fail
  refine C.out.mono ?_
  rintro e w1 ⟨rfl, hd⟩
  go_wp2_with fail
  go_ret
  exact ⟨rfl, q.trans (q_drewN _ hd)⟩

set_option maxHeartbeats 2000000 in
/-- the document's order -/
theorem refLess_any (R : List Int) (A : Option Addr) (n c : Nat) (a b : Int) (w : World) (hn : n = R.length) (hr : Rds w w.heap.size A (cellsI R)) :
    Calls Tryz.prog 45 #[.slice A n c, .int .i64 a, .int .i64 b] w fun e w' => e = .returned (.bool (lessB R a b)) ∧ w = w' := by
  subst hn
  have H : ∀ x : Int, (0 ≤ x ∧ x < R.length) ∨ ¬ 0 ≤ x ∨ (0 ≤ x ∧ ¬ x < R.length) := fun x => by omega
  have HR : Hid (lessB R a b = if rk R a = rk R b then decide (a < b) else decide (rk R a < rk R b)) := Lib.hid rfl
  rcases H a with ha | ha | ha
  · have Hb := H b
    clear H
    obtain ⟨i, rfl⟩ := Int.eq_ofNat_of_zero_le ha.1
    have hi : i < R.length := by omega
    have ea : rk R (i : Int) = R[i] := by unfold rk; rw [if_pos ha]; simp [hi]
    have a1 : decide ((0 : Int) ≤ (i : Int)) = true := decide_eq_true ha.1
    have a2 : decide (i < R.length) = true := decide_eq_true hi
    rcases Hb with hb | hb | hb
    · obtain ⟨j, rfl⟩ := Int.eq_ofNat_of_zero_le hb.1
      have hj : j < R.length := by omega
      have eb : rk R (j : Int) = R[j] := by unfold rk; rw [if_pos hb]; simp [hj]
      have b1 : decide ((0 : Int) ≤ (j : Int)) = true := decide_eq_true hb.1
      have b2 : decide (j < R.length) = true := decide_eq_true hj
      obtain ⟨ad, e, _, c0⟩ := hr.int_at hi
      subst e
      have c1 := hr.int_some hj
      rw [ea, eb] at HR
      clear hr ea eb ha hb
      generalize R[i] = x at *
      generalize R[j] = y at *
      by_cases h : x = y
      · rw [if_pos h] at HR
        have hne : (x != y) = false := by rw [h]; simp
        clear h
        go_enter Tryz.func45, Tryz.ntmps45
        go_wp2_with fail
        go_ret
        exact ⟨by rw [HR.out]; first | rfl | simp, rfl⟩
      · rw [if_neg h] at HR
        have hne : (x != y) = true := by simpa using h
        clear h
        go_enter Tryz.func45, Tryz.ntmps45
        go_wp2_with fail
        go_ret
        exact ⟨by rw [HR.out]; first | rfl | simp, rfl⟩
    · have eb : rk R b = 0 := by unfold rk; rw [if_neg (fun k => hb k.1)]
      have b1 : decide ((0 : Int) ≤ b) = false := decide_eq_false hb
      obtain ⟨ad, e, _, c0⟩ := hr.int_at hi
      subst e
      rw [ea, eb] at HR
      clear hr ea eb ha hb
      generalize R[i] = x at *
      by_cases h : x = (0 : Int)
      · rw [if_pos h] at HR
        have hne : (x != (0 : Int)) = false := by rw [h]; simp
        clear h
        go_enter Tryz.func45, Tryz.ntmps45
        go_wp2_with fail
        go_ret
        exact ⟨by rw [HR.out]; first | rfl | simp, rfl⟩
      · rw [if_neg h] at HR
        have hne : (x != (0 : Int)) = true := by simpa using h
        clear h
        go_enter Tryz.func45, Tryz.ntmps45
        go_wp2_with fail
        go_ret
        exact ⟨by rw [HR.out]; first | rfl | simp, rfl⟩
    · have eb : rk R b = 0 := by unfold rk; rw [if_neg (fun k => hb.2 k.2)]
      have b1 : decide ((0 : Int) ≤ b) = true := decide_eq_true hb.1
      have b2 : decide (b < (R.length : Int)) = false := decide_eq_false hb.2
      obtain ⟨ad, e, _, c0⟩ := hr.int_at hi
      subst e
      rw [ea, eb] at HR
      clear hr ea eb ha hb
      generalize R[i] = x at *
      by_cases h : x = (0 : Int)
      · rw [if_pos h] at HR
        have hne : (x != (0 : Int)) = false := by rw [h]; simp
        clear h
        go_enter Tryz.func45, Tryz.ntmps45
        go_wp2_with fail
        go_ret
        exact ⟨by rw [HR.out]; first | rfl | simp, rfl⟩
      · rw [if_neg h] at HR
        have hne : (x != (0 : Int)) = true := by simpa using h
        clear h
        go_enter Tryz.func45, Tryz.ntmps45
        go_wp2_with fail
        go_ret
        exact ⟨by rw [HR.out]; first | rfl | simp, rfl⟩
  · have Hb := H b
    clear H
    have ea : rk R a = 0 := by unfold rk; rw [if_neg (fun k => ha k.1)]
    have a1 : decide ((0 : Int) ≤ a) = false := decide_eq_false ha
    rcases Hb with hb | hb | hb
    · obtain ⟨j, rfl⟩ := Int.eq_ofNat_of_zero_le hb.1
      have hj : j < R.length := by omega
      have eb : rk R (j : Int) = R[j] := by unfold rk; rw [if_pos hb]; simp [hj]
      have b1 : decide ((0 : Int) ≤ (j : Int)) = true := decide_eq_true hb.1
      have b2 : decide (j < R.length) = true := decide_eq_true hj
      obtain ⟨ad, e, _, c1⟩ := hr.int_at hj
      subst e
      rw [ea, eb] at HR
      clear hr ea eb ha hb
      generalize R[j] = y at *
      by_cases h : (0 : Int) = y
      · rw [if_pos h] at HR
        have hne : ((0 : Int) != y) = false := by rw [h]; simp
        clear h
        go_enter Tryz.func45, Tryz.ntmps45
        go_wp2_with fail
        go_ret
        exact ⟨by rw [HR.out]; first | rfl | simp, rfl⟩
      · rw [if_neg h] at HR
        have hne : ((0 : Int) != y) = true := by simpa using h
        clear h
        go_enter Tryz.func45, Tryz.ntmps45
        go_wp2_with fail
        go_ret
        exact ⟨by rw [HR.out]; first | rfl | simp, rfl⟩
    · have eb : rk R b = 0 := by unfold rk; rw [if_neg (fun k => hb k.1)]
      have b1 : decide ((0 : Int) ≤ b) = false := decide_eq_false hb
      rw [ea, eb] at HR
      clear hr ea eb ha hb
      rw [if_pos rfl] at HR
      go_enter Tryz.func45, Tryz.ntmps45
      go_wp2_with fail
      go_ret
      exact ⟨by rw [HR.out]; first | rfl | simp, rfl⟩
    · have eb : rk R b = 0 := by unfold rk; rw [if_neg (fun k => hb.2 k.2)]
      have b1 : decide ((0 : Int) ≤ b) = true := decide_eq_true hb.1
      have b2 : decide (b < (R.length : Int)) = false := decide_eq_false hb.2
      rw [ea, eb] at HR
      clear hr ea eb ha hb
      rw [if_pos rfl] at HR
      go_enter Tryz.func45, Tryz.ntmps45
      go_wp2_with fail
      go_ret
      exact ⟨by rw [HR.out]; first | rfl | simp, rfl⟩
  · have Hb := H b
    clear H
    have ea : rk R a = 0 := by unfold rk; rw [if_neg (fun k => ha.2 k.2)]
    have a1 : decide ((0 : Int) ≤ a) = true := decide_eq_true ha.1
    have a2 : decide (a < (R.length : Int)) = false := decide_eq_false ha.2
    rcases Hb with hb | hb | hb
    · obtain ⟨j, rfl⟩ := Int.eq_ofNat_of_zero_le hb.1
      have hj : j < R.length := by omega
      have eb : rk R (j : Int) = R[j] := by unfold rk; rw [if_pos hb]; simp [hj]
      have b1 : decide ((0 : Int) ≤ (j : Int)) = true := decide_eq_true hb.1
      have b2 : decide (j < R.length) = true := decide_eq_true hj
      obtain ⟨ad, e, _, c1⟩ := hr.int_at hj
      subst e
      rw [ea, eb] at HR
      clear hr ea eb ha hb
      generalize R[j] = y at *
      by_cases h : (0 : Int) = y
      · rw [if_pos h] at HR
        have hne : ((0 : Int) != y) = false := by rw [h]; simp
        clear h
        go_enter Tryz.func45, Tryz.ntmps45
        go_wp2_with fail
        go_ret
        exact ⟨by rw [HR.out]; first | rfl | simp, rfl⟩
      · rw [if_neg h] at HR
        have hne : ((0 : Int) != y) = true := by simpa using h
        clear h
        go_enter Tryz.func45, Tryz.ntmps45
        go_wp2_with fail
        go_ret
        exact ⟨by rw [HR.out]; first | rfl | simp, rfl⟩
    · have eb : rk R b = 0 := by unfold rk; rw [if_neg (fun k => hb k.1)]
      have b1 : decide ((0 : Int) ≤ b) = false := decide_eq_false hb
      rw [ea, eb] at HR
      clear hr ea eb ha hb
      rw [if_pos rfl] at HR
      go_enter Tryz.func45, Tryz.ntmps45
      go_wp2_with fail
      go_ret
      exact ⟨by rw [HR.out]; first | rfl | simp, rfl⟩
    · have eb : rk R b = 0 := by unfold rk; rw [if_neg (fun k => hb.2 k.2)]
      have b1 : decide ((0 : Int) ≤ b) = true := decide_eq_true hb.1
      have b2 : decide (b < (R.length : Int)) = false := decide_eq_false hb.2
      rw [ea, eb] at HR
      clear hr ea eb ha hb
      rw [if_pos rfl] at HR
      go_enter Tryz.func45, Tryz.ntmps45
      go_wp2_with fail
      go_ret
      exact ⟨by rw [HR.out]; first | rfl | simp, rfl⟩

theorem upU (V : List Int) (A : Option Addr) (n c m : Nat) (w : World) (hn : n = V.length) (hr : Rds w w.heap.size A (cellsI V)) (hm : m < V.length) (p : Nat) (hp : V[m]? = some (p : Int)) (hpl : p < V.length) :
    Calls Tryz.prog 83 #[.slice A n c, .int .i64 (m : Int)] w fun e w' => e = .returned (.int .i64 (p : Int)) ∧ w = w' := by
  subst hn
  obtain ⟨ad, rfl, _, c0⟩ := hr.int_at hm
  obtain ⟨_, hp'⟩ := List.getElem?_eq_some_iff.1 hp
  rw [hp'] at c0
  have h0 : (0 : Int) ≤ (m : Int) := by omega
  have h1 : (m : Int) < (V.length : Int) := by omega
  have hd : (decide (0 ≤ (m : Int)) && decide ((m : Int) < (V.length : Int))) = true := by rw [decide_eq_true h0, decide_eq_true h1]; rfl
  have hd2 : (decide (0 ≤ (p : Int)) && decide ((p : Int) < (V.length : Int))) = true := by rw [decide_eq_true (show (0 : Int) ≤ (p : Int) by omega), decide_eq_true (show (p : Int) < (V.length : Int) by omega)]; rfl
  clear hr hp hp'
  go_enter Tryz.func83, Tryz.ntmps83
  go_wp2_with (go_at_call 86; refine (placeU _ _ _).mono ?_; rintro e w2 ⟨rfl, rfl⟩; first | rw [hd] | rw [hd2])
  go_ret
  exact ⟨rfl, rfl⟩
end Go.Proofs.YtjmopbimleoidaaGreat.Uf

namespace Go.Proofs.YtjmopbimleoidaaGreat.Uf
open Go.RowKit Kit Tr

set_option maxRecDepth 100000 in
set_option maxHeartbeats 1000000 in
theorem find_any (R : List Int) (c : Cells) (m : Nat) (A D E : Option Addr) (n1 k1 n2 k2 n3 k3 : Nat) (w : World) (h1 : n1 = c.V.length) (h2 : n2 = c.N.length) (h3 : n3 = c.M.length) (h : Rd w c A k1 D k2 E k3) (hC : Cl R c.V) (hm : m < c.V.length) (hl : c.V.length ≤ 1000000) :
    Calls Tryz.prog 38 #[.agg #[.slice A n1 k1, .slice D n2 k2, .slice E n3 k3], .int .i64 (m : Int)] w fun e w' => e = .returned (.int .i64 (fst c.V m : Int)) ∧ Q w w' := by
  subst h1 h2 h3
  have q0 := (Q.refl w).alloc (Obj.cells #[Value.slice A c.V.length k1, Value.slice D c.N.length k2, Value.slice E c.M.length k3] 29)
  have HB := Lib.hid (Box3.new w (Value.slice A c.V.length k1) (Value.slice D c.N.length k2) (Value.slice E c.M.length k3) 29)
  have HR := Lib.hid (h.q q0)
  have HC := Lib.hid hC
  have HF : Hid (root c.V (c.V.length - 0) m = fst c.V m) := rfl
  clear h hC
  go_enter Tryz.func38, Tryz.ntmps38
  go_upto_region 1 with fail
  generalize w.alloc (Obj.cells #[Value.slice A c.V.length k1, Value.slice D c.N.length k2, Value.slice E c.M.length k3] 29) = W0 at *
  have b0 := HB.out.c0
  go_wp2_with fail
  go_loopw [1, 9] (fun x i wr => ∃ (k y : Nat), k ≤ c.V.length ∧ y < c.V.length ∧ i = .int .i64 k ∧ x = .int .i64 (y : Int) ∧ Hid (root c.V (c.V.length - k) y = fst c.V m) ∧ W0 = wr) (fun _ i _ => c.V.length - (intOf i).toNat)
  case atStart => exact ⟨0, m, Nat.zero_le _, hm, rfl, rfl, HF, rfl⟩
  case round =>
    clear HF
    obtain ⟨k, y, hk, hy, rfl, rfl, HH, rfl⟩ := hrel
    by_cases hlt : k < c.V.length
    · obtain ⟨p1, p2, _⟩ := HC.out.parent hy
      have C := Lib.hid (upU c.V A _ k1 y W0 rfl HR.out.v hy _ p2 p1)
      by_cases e : par c.V y = y
      · have HF : Hid (fst c.V m = y) := by have := HH.out; rw [root_stay e] at this; exact this.symm
        rw [e] at C
        clear p1 p2 e
        go_wp2_with (go_at_call 83; refine C.out.mono ?_; rintro e w2 ⟨rfl, rfl⟩)
        go_ret
        exact ⟨by rw [HF.out]; rfl, q0⟩
      · have HF : Hid (root c.V (c.V.length - (k + 1)) (par c.V y) = fst c.V m) := by
          have := HH.out
          rw [show c.V.length - k = (c.V.length - (k + 1)) + 1 by omega] at this
          unfold root at this
          rw [if_neg e] at this
          exact this
        have e1 : ((par c.V y : Int) == (y : Int)) = false := beq_eq_false_iff_ne.2 (by omega)
        have e2 : (par c.V y == y) = false := by simpa using e
        clear p2 e
        go_wp2_with (go_at_call 83; refine C.out.mono ?_; rintro e w2 ⟨rfl, rfl⟩)
        go_roundw
        case rel => exact ⟨k + 1, par c.V y, by omega, p1, by go_num, rfl, HF, trivial⟩
        case measure => simp [intOf]; omega
    · have HF : Hid (y = fst c.V m) := by
        have := HH.out
        rw [show c.V.length - k = 0 by omega] at this
        exact this
      go_wp2_with fail
      go_ret
      exact ⟨by rw [← HF.out]; rfl, q0⟩

set_option maxRecDepth 100000 in
set_option maxHeartbeats 2000000 in
theorem right5_any (R : List Int) (c : Cells) (A D E F : Option Addr) (n1 k1 n2 k2 n3 k3 n4 k4 : Nat) (w : World) (h1 : n1 = c.V.length) (h2 : n2 = c.N.length) (h3 : n3 = c.M.length) (h4 : n4 = R.length) (h : Rd w c A k1 D k2 E k3) (hR : Rds w w.heap.size F (cellsI R)) (hf : Few c 1000000) :
    Calls Tryz.prog 51 #[.agg #[.slice A n1 k1, .slice D n2 k2, .slice E n3 k3], .slice F n4 k4] w fun e w' => e = .returned (.bool (clB R c.V && rightB c)) ∧ Q w w' := by
  subst h1 h2 h3 h4
  have Hf := Lib.hid hf
  obtain ⟨fv, fn, fm⟩ := hf
  have q0 := (Q.refl w).alloc (Obj.cells #[Value.slice A c.V.length k1, Value.slice D c.N.length k2, Value.slice E c.M.length k3] 29)
  have HB := Lib.hid (Box3.new w (Value.slice A c.V.length k1) (Value.slice D c.N.length k2) (Value.slice E c.M.length k3) 29)
  have HR := Lib.hid (h.q q0)
  have HRk := Lib.hid (hR.q q0)
  clear h hR
  go_enter Tryz.func51, Tryz.ntmps51
  go_wp2_with fail
  generalize w.alloc (Obj.cells #[Value.slice A c.V.length k1, Value.slice D c.N.length k2, Value.slice E c.M.length k3] 29) = W0 at *
  have b0 := HB.out.c0
  have b1 := HB.out.c1
  have b2 := HB.out.c2
  go_loopw [5] (fun i wr => ∃ k : Nat, k ≤ c.V.length ∧ i = .int .i64 k ∧ Hid (∀ n, n < k → okB R c.V n = true) ∧ W0 = wr) (fun i _ => c.V.length - (intOf i).toNat)
  case atStart => exact ⟨0, Nat.zero_le _, rfl, Lib.hid (fun n hn => absurd hn (by omega)), rfl⟩
  case round =>
    obtain ⟨k, hk, rfl, HH, rfl⟩ := hrel
    by_cases hlt : k < c.V.length
    · obtain ⟨ad, e, hb, c0⟩ := HR.out.v.int_at hlt
      have HE := Lib.hid e
      clear e
      have hget : c.V.getD k 0 = c.V[k] := by rw [List.getD_eq_getElem?_getD, List.getElem?_eq_getElem hlt]; rfl
      have HO : Hid (okB R c.V k = ((c.V[k] == (k : Int)) || (decide (0 ≤ c.V[k]) && decide (c.V[k] < c.V.length) && lessB R c.V[k] k))) := by unfold Hid okB; rw [hget]
      clear hget
      have HN : Hid (okB R c.V k = true → ∀ n, n < k + 1 → okB R c.V n = true) := fun hk n hn => by
        by_cases e : n = k
        · subst e; exact hk
        · exact HH.out n (by omega)
      have HZ : Hid (okB R c.V k = false → clB R c.V = false) := fun hk => decide_eq_false (fun h => by have := h k hlt; rw [hk] at this; cases this)
      have b0' : W0.cell? ⟨w.heap.size, 0, none⟩ = some (.slice (some ad) c.V.length k1) := by rw [← HE.out]; exact b0
      generalize c.V[k] = x at *
      by_cases x1 : x = (k : Int)
      · have HK := HN.out (by rw [HO.out, x1]; simp)
        have d1 : (x == (k : Int)) = true := by simpa using x1
        have HK := Lib.hid HK
        clear x1 b0
        go_wp2_with fail
        go_roundw
        case rel => exact ⟨k + 1, by omega, by go_num, HK, trivial⟩
        case measure => simp [intOf]; omega
      · have d1 : (x == (k : Int)) = false := by simpa using x1
        have HO : Hid (okB R c.V k = (decide (0 ≤ x) && decide (x < c.V.length) && lessB R x k)) := by have := HO.out; rw [d1, Bool.false_or] at this; exact this
        clear x1
        by_cases x2 : x < 0
        · have HF := Lib.hid (HZ.out (by rw [HO.out, decide_eq_false (by omega)]; rfl))
          have d2 : decide (x < 0) = true := decide_eq_true x2
          clear x2 b0
          go_wp2_with fail
          go_ret
          exact ⟨by rw [HF.out]; rfl, q0⟩
        · have d2 : decide (x < 0) = false := decide_eq_false x2
          by_cases x3 : (c.V.length : Int) ≤ x
          · have HF := Lib.hid (HZ.out (by rw [HO.out, decide_eq_false (show ¬ x < (c.V.length : Int) by omega), Bool.and_false]; rfl))
            have d3 : decide ((c.V.length : Int) ≤ x) = true := decide_eq_true x3
            clear x2 x3 b0
            go_wp2_with fail
            go_ret
            exact ⟨by rw [HF.out]; rfl, q0⟩
          · have d3 : decide ((c.V.length : Int) ≤ x) = false := decide_eq_false x3
            have C := Lib.hid (refLess_any R F _ k4 x k W0 rfl HRk.out)
            cases hls : lessB R x k
            · have HF := Lib.hid (HZ.out (by rw [HO.out, hls, Bool.and_false]))
              rw [hls] at C
              clear x2 x3 b0 hls
              go_wp2_with (go_at_call 45; refine C.out.mono ?_; rintro e w2 ⟨rfl, rfl⟩)
              go_ret
              exact ⟨by rw [HF.out]; rfl, q0⟩
            · have HK := Lib.hid (HN.out (by rw [HO.out, hls, decide_eq_true (show (0 : Int) ≤ x by omega), decide_eq_true (show x < (c.V.length : Int) by omega)]; rfl))
              rw [hls] at C
              clear x2 x3 b0 hls
              go_wp2_with (go_at_call 45; refine C.out.mono ?_; rintro e w2 ⟨rfl, rfl⟩)
              go_roundw
              case rel => exact ⟨k + 1, by omega, by go_num, HK, trivial⟩
              case measure => simp [intOf]; omega
    · have HT : Hid (clB R c.V = true) := decide_eq_true (fun n hn => HH.out n (by omega))
      have C := Lib.hid (refRight_any c A D E _ k1 _ k2 _ k3 W0 rfl rfl rfl HR.out Hf.out)
      go_wp2_with (go_at_call 93; refine C.out.mono ?_; rintro e w2 ⟨rfl, q2⟩)
      go_ret
      exact ⟨by rw [HT.out]; rfl, q0.trans q2⟩
end Go.Proofs.YtjmopbimleoidaaGreat.Uf

namespace Go.Proofs.YtjmopbimleoidaaGreat.Ig
open Go.RowKit Kit Tr Uf
open Go.Proofs.YtjmopbimleoidaaGreat.Hs (Keys Ints atI refAt_any)
theorem root_next {V : List Int} {j y : Nat} : root V (j + 1) y = root V j (par V y) := by
  show (if par V y = y then y else root V j (par V y)) = _
  by_cases e : par V y = y
  · rw [if_pos e, e, root_stay e]
  · rw [if_neg e]

set_option maxRecDepth 100000 in
set_option maxHeartbeats 1000000 in
theorem refFind_any (R V : List Int) (m : Nat) (A : Option Addr) (n1 k1 : Nat) (b d : Value) (w : World) (h1 : n1 = V.length) (h : Tr.Rds w w.heap.size A (cellsI V)) (hC : Cl R V) (hm : m < V.length) (hl : V.length ≤ 1000000) :
    Calls Tryz.prog 14 #[.agg #[.slice A n1 k1, b, d], .int .i64 (m : Int)] w fun e w' => e = .returned (.int .i64 (fst V m : Int)) ∧ Q w w' := by
  subst h1
  have q0 := (Q.refl w).alloc (Obj.cells #[Value.slice A V.length k1, b, d] 29)
  have HB := Lib.hid (Box3.new w (Value.slice A V.length k1) b d 29)
  have HR := Lib.hid (h.q q0)
  have HC := Lib.hid hC
  have HF : Hid (root V (V.length - 0) m = fst V m) := rfl
  clear h hC
  go_enter Tryz.func14, Tryz.ntmps14
  go_wp2_with fail
  generalize w.alloc (Obj.cells #[Value.slice A V.length k1, b, d] 29) = W0 at *
  have b0 := HB.out.c0
  go_loopw [1, 5] (fun x i wr => ∃ (k y : Nat), k ≤ V.length ∧ y < V.length ∧ i = .int .i64 k ∧ x = .int .i64 (y : Int) ∧ Hid (root V (V.length - k) y = fst V m) ∧ W0 = wr) (fun _ i _ => V.length - (intOf i).toNat)
  case atStart => exact ⟨0, m, Nat.zero_le _, hm, rfl, rfl, HF, rfl⟩
  case round =>
    clear HF
    obtain ⟨k, y, hk, hy, rfl, rfl, HH, rfl⟩ := hrel
    by_cases hlt : k < V.length
    · obtain ⟨p1, p2, _⟩ := HC.out.parent hy
      obtain ⟨ad, e, hb, c0⟩ := HR.out.int_at hy
      rw [HC.out.at hy] at c0
      have HF : Hid (root V (V.length - (k + 1)) (par V y) = fst V m) := by
        have := HH.out
        rw [show V.length - k = (V.length - (k + 1)) + 1 by omega, root_next] at this
        exact this
      have b0' : W0.cell? ⟨w.heap.size, 0, none⟩ = some (.slice (some ad) V.length k1) := by rw [← e]; exact b0
      clear p2 b0 e
      go_wp2_with fail
      go_roundw
      case rel => exact ⟨k + 1, par V y, by omega, p1, by go_num, rfl, HF, trivial⟩
      case measure => simp [intOf]; omega
    · have HF : Hid (y = fst V m) := by
        have := HH.out
        rw [show V.length - k = 0 by omega] at this
        exact this
      go_wp2_with fail
      go_ret
      exact ⟨by rw [← HF.out]; rfl, q0⟩
end Go.Proofs.YtjmopbimleoidaaGreat.Ig

namespace Go.Proofs.YtjmopbimleoidaaGreat.Ig
open Go.RowKit Kit Tr Uf
open Go.Proofs.YtjmopbimleoidaaGreat.Hs (Keys Ints atI refAt_any BoxT)
open Go.Proofs.YtjmopbimleoidaaGreat.Tm (Tm termAt refOf_any Box4)
/-- the place of a variable's term -/
def atV (ks : List (List Int)) (n : Int) : Int := atI ks [2, n, 0]
/-- a term's variable, if it is one of the first m -/
def numV (ks : List (List Int)) (m : Nat) (id : Int) : Int :=
  let t := (termAt ks id).getD Tm.none
  if (termAt ks id).isSome = true ∧ t.k = 2 ∧ t.s < (m : Int) then t.s else -1
/-- the one for a term -/
def repV (ks : List (List Int)) (V : List Int) (id : Int) : Int :=
  if numV ks V.length id < 0 then id else atV ks (fst V (numV ks V.length id).toNat : Int)

theorem key_ints (w : World) (x : Int) (t : TypeId) : Ints (w.alloc (.cells #[.int .i64 2, .int .i64 x, .int .i64 0] t)) (w.alloc (.cells #[.int .i64 2, .int .i64 x, .int .i64 0] t)).heap.size (some ⟨w.heap.size, 0, none⟩) [2, x, 0] := fun _ => by
  refine ⟨_, rfl, by simp, fun i y h => ?_⟩
  match i, h with
  | 0, h => simp at h; subst h; simp [Addr.add]
  | 1, h => simp at h; subst h; simp [Addr.add]
  | 2, h => simp at h; subst h; simp [Addr.add]
  | i + 3, h => simp at h

set_option maxRecDepth 100000 in
set_option maxHeartbeats 1000000 in
theorem refAtV_any (A : Option Addr) (n c : Nat) (b : Value) (ks : List (List Int)) (x : Int) (w : World) (hn : n = ks.length) (hk : Keys w w.heap.size A ks) (hl : ks.length ≤ maxLen) (hs : ∀ k ∈ ks, k.length ≤ maxLen) :
    Calls Tryz.prog 17 #[.agg #[.slice A n c, b], .int .i64 x] w fun e w' => e = .returned (.int .i64 (atV ks x)) ∧ Q w w' := by
  subst hn
  have q0 := (Q.refl w).alloc (Obj.cells #[Value.slice A ks.length c, b] 26)
  have HB := Lib.hid (BoxT.new w (Value.slice A ks.length c) b 26)
  have Hk := Lib.hid ((hk.q (Nat.le_refl _) q0).more q0.size)
  clear hk
  go_enter Tryz.func17, Tryz.ntmps17
  go_upto_region 1 with fail
  generalize w.alloc (Obj.cells #[Value.slice A ks.length c, b] 26) = W0 at *
  have b0 := HB.out.c0
  have q1 := (Q.refl W0).alloc (Obj.cells #[.int .i64 2, .int .i64 x, .int .i64 0] 3)
  have C := Lib.hid (refAt_any A (some ⟨W0.heap.size, 0, none⟩) _ c 3 3 ks [2, x, 0] (W0.alloc (Obj.cells #[.int .i64 2, .int .i64 x, .int .i64 0] 3)) rfl rfl ((Hk.out.q (Nat.le_refl _) q1).more q1.size) (key_ints W0 x 3) hl hs)
  go_wp2_with (go_at_call 53; refine C.out.mono ?_; rintro e w2 ⟨rfl, hd⟩)
  go_ret
  exact ⟨rfl, (q0.trans q1).trans (q_drewN _ hd)⟩
end Go.Proofs.YtjmopbimleoidaaGreat.Ig
