/-
  What the proofs lean on, part 8 of 11.
-/
import Derived.Test.YtjehccemilefgaaPe
import Derived.Test.YtjehccemilefgaaPg
import Derived.Maps.RangeWalk
import Derived.Maps.OwnOps
import Derived.Maps.OwnSet
import Derived.WideKeyPair
import Derived.Shelf.Small.Bits
import Derived.Shelf.Small.Wraps
import Derived.Shelf.Strconv.Itoa0
import Derived.Ground.Names2Prog
import Derived.Shelf.Slices.Clone
import Derived.Shelf.Slices.SearchI
import Derived.Ground.SlgnProg
import Derived.Shelf.SlicesE.Clone
import Derived.Shelf.SlSortCmp.NoneTotal
import Derived.Shelf.SlGeneric
import Derived.Ground.SlsfProg
import Derived.Test.YtjehccemilefgaaProg
namespace Go.Proofs.Ytjehccemilefgaa.St
open Go.RowKit Kit Rw

theorem add_add (ad : Addr) (i j : Nat) : (ad.add i).add j = ad.add (i + j) := by
  unfold Addr.add
  by_cases h : i = 0 <;> by_cases h' : j = 0 <;> simp [h, h', Nat.add_assoc]
def LayPost (l : List PI) (w : World) (e : Ending) (w' : World) : Prop := ∃ v, e = .returned v ∧ w'.ownsRow w.heap.size 46 2 v l.length (cellsQ l) ∧ Q w w'
end Go.Proofs.Ytjehccemilefgaa.St

namespace Go.Proofs.Ytjehccemilefgaa.St
open Go.RowKit Kit Rw
open Go.Proofs.Ytjehccemilefgaa.Sg (Sig Row)
open Go.Proofs.Ytjehccemilefgaa.Hs (Ints Keys BoxT)
open Go.Proofs.Ytjehccemilefgaa.Tm (Tm Store isPl)
/-- a row's block isn't another's -/
def Ap (v u : Value) : Prop := v.ownBlock = none ∨ v.ownBlock ≠ u.ownBlock
theorem ap_new {v u u' : Value} {N M : Nat} (hv : ∀ g, v.ownBlock = some g → g < N) (hu : u'.ownBlock = u.ownBlock ∨ u'.ownBlock = some M) (hN : N ≤ M) (h : Ap v u) : Ap v u' := by
  rcases hu with e | e
  · unfold Ap; rw [e]; exact h
  · cases hb : v.ownBlock with
    | none => exact .inl hb
    | some g =>
      refine .inr ?_
      rw [hb, e]
      intro he
      injection he with he
      have := hv g hb
      omega
theorem boxT_grown {W W' : World} {B : Nat} {a b : Value} {row : Option Nat} (h : BoxT W B a b) (gr : W.grownBy W' row) (hr : row ≠ some B) : BoxT W' B a b := by
  have hb := gr.block B h.lt (fun e => hr e.symm)
  refine ⟨?_, ?_, Nat.lt_of_lt_of_le h.lt gr.size⟩
  · rw [← h.c0]; unfold World.cell?; rw [hb]
  · rw [← h.c1]; unfold World.cell?; rw [hb]
theorem conF_len {L : List Sig} {s : Int} : ∀ (k : Nat) (l m : List Int), (conF L s k l m).length ≤ 2 * l.length
  | k, a :: l, b :: m => by
    rw [conF, List.length_append, List.length_cons]
    have := pairsF_len a b (varyN L s k)
    have := conF_len (L := L) (s := s) (k + 1) l m
    omega
  | _, [], _ => by simp [conF]
  | _, _ :: _, [] => by simp [conF]
theorem stepT_len (L : List Sig) (x y : Int) (s t : Tm) : (stepT L x y s t).2.length ≤ 2 * s.xs.length + 2 := by
  unfold stepT
  split; · simp
  split; · simp
  split; · simp
  split; · simp
  split
  · unfold projF
    split
    · simp only [List.length_append]
      split <;> split <;> simp
    · split
      · exact Nat.le_trans (pairsF_len _ _ _) (by omega)
      · simp
  split
  · exact Nat.le_trans (conF_len _ _ _) (by omega)
  split <;> simp
theorem step_len {L : List Sig} {ks : List (List Int)} (hS : Store L ks) (hl8 : ∀ s ∈ L, s.2.size ≤ 8) (x y : Int) : (stepF L ks x y).2.length ≤ 18 := by
  by_cases hxy : isPl x ks.length = true ∧ isPl y ks.length = true
  · obtain ⟨x0, x1⟩ := (Go.Proofs.Ytjehccemilefgaa.Tm.isPl_iff _ _).1 hxy.1
    obtain ⟨y0, y1⟩ := (Go.Proofs.Ytjehccemilefgaa.Tm.isPl_iff _ _).1 hxy.2
    obtain ⟨i, rfl⟩ := Int.eq_ofNat_of_zero_le x0
    obtain ⟨j, rfl⟩ := Int.eq_ofNat_of_zero_le y0
    have hi : i < ks.length := by omega
    have hj : j < ks.length := by omega
    rw [stepF_at hS hi hj]
    refine Nat.le_trans (stepT_len _ _ _ _ _) ?_
    have : (Go.Proofs.Ytjehccemilefgaa.Ld.tmP ks i).xs.length ≤ 8 := by
      cases (place_tok hS hi).1 with
      | leaf h _ => rw [h]; simp
      | con j h _ _ h2 _ => rw [h2]; exact hl8 _ (List.getElem_mem h)
      | two a b _ h _ _ => rw [h]; simp
      | proj j m h e _ _ _ _ h2 _ => rw [h2]; simp
    omega
  · rw [stepF_no hxy]; simp
end Go.Proofs.Ytjehccemilefgaa.St

namespace Go.Proofs.Ytjehccemilefgaa.St
open Go.RowKit Kit Rw
open Go.Proofs.Ytjehccemilefgaa.Sg (Sig Row)
def pairsA (a t : PI) (v : UInt8) : List PI := (if v ≠ 45 then [a] else []) ++ (if v ≠ 43 then [t] else [])
set_option maxRecDepth 100000 in
set_option maxHeartbeats 2000000 in
theorem varied10_any (base : Nat) (o : List PI) (u : Value) (v : UInt8) (a t : PI) (w : World) (ho : w.ownsRow base 46 2 u o.length (cellsQ o)) (hb : base ≤ w.heap.size) (hl : o.length ≤ 1000000) :
    Calls Try.prog 71 #[u, .int .u8 (v.toNat : Int), .agg #[.int .i64 a.1, .int .i64 a.2], .agg #[.int .i64 t.1, .int .i64 t.2]] w (RowQ base (o ++ pairsA a t v) w) := by
  obtain ⟨i0, hi, hz0, hz1, hz2⟩ := info_parts pairInfo
  have Hi := Lib.hid hi
  have Hz0 := Lib.hid hz0
  have Hz1 := Lib.hid hz1
  have Hz2 := Lib.hid hz2
  clear hi hz0 hz1 hz2
  obtain ⟨a0, a1⟩ := a
  obtain ⟨t0, t1⟩ := t
  have e45 : ((v.toNat : Int) == 45) = decide (v = 45) := Ex.byte_is v 45 (by decide)
  have e43 : ((v.toNat : Int) == 43) = decide (v = 43) := Ex.byte_is v 43 (by decide)
  have qa := ((Q.refl w).alloc (Obj.cells #[.int .i64 a0, .int .i64 a1] 46)).alloc (Obj.cells #[.int .i64 t0, .int .i64 t1] 46)
  have HO := Lib.hid (row_kept ho qa (Nat.le_refl _))
  have HQ := Lib.hid (qa.mono hb)
  have hbW := Nat.le_trans hb qa.size
  have oa := (Ex.own_new8 w [.int .i64 a0, .int .i64 a1] 46).q ((Q.refl _).alloc (Obj.cells #[.int .i64 t0, .int .i64 t1] 46))
  have ot := Ex.own_new8 (w.alloc (Obj.cells #[.int .i64 a0, .int .i64 a1] 46)) [.int .i64 t0, .int .i64 t1] 46
  rw [show (w.alloc (Obj.cells #[.int .i64 a0, .int .i64 a1] 46)).heap.size = w.heap.size + 1 by simp] at ot
  have HOA := Lib.hid oa
  have HOT := Lib.hid ot
  clear ho qa oa ot
  by_cases h43 : v = 43
  · rw [decide_eq_true h43] at e43
    have HR : Hid (pairsA (a0, a1) (t0, t1) v = [(a0, a1)]) := by unfold Hid; rw [h43]; rfl
    clear e45 h43
    generalize (v.toNat : Int) = vv at *
    go_enter Try.func71, Try.ntmps71
    go_upto_region 3 with fail
    generalize (w.alloc (Obj.cells #[.int .i64 a0, .int .i64 a1] 46)).alloc (Obj.cells #[.int .i64 t0, .int .i64 t1] 46) = W at *
    obtain ⟨x0, _⟩ := HOA.out.2 0 _ rfl
    obtain ⟨x1, _⟩ := HOA.out.2 1 _ rfl
    have HO1 := Lib.hid (row_kept HO.out ((Q.refl W).alloc (Obj.cells #[.int .i64 a0, .int .i64 a1] 46)) (Nat.le_refl _))
    have HB1 := Lib.hid (HQ.out.alloc hbW (Obj.cells #[.int .i64 a0, .int .i64 a1] 46))
    have hb1 : base ≤ (W.alloc (Obj.cells #[.int .i64 a0, .int .i64 a1] 46)).heap.size := Nat.le_trans hbW ((Q.refl W).alloc _).size
    have HS1 := Lib.hid (src_alloc W [.int .i64 a0, .int .i64 a1] 46 (0, 0))
    go_wp2_with (at_builtin; refine wpList_append_src _ rfl (.tmp 12) (.tmp 14) _ rfl base 46 i0 _ 2 16 Try.underlying31 Hi.out Hz0.out Hz1.out Hz2.out rfl (by omega) u o.length (cellsQ o) rfl HO1.out (some ⟨W.heap.size, 0, none⟩) 1 1 [.int .i64 a0, .int .i64 a1] rfl rfl HS1.out (by simp [Value.oneCell']) (by unfold maxLen; omega) (by omega) hb1 ?_; intro v' w' own' gr' _; have Own := Lib.hid own'; have HQ' : Hid (Below base w w') := Below.grown HB1.out gr' hb1 (fun k e => (HO1.out.lt k e).1); clear own' gr')
    go_ret
    exact ⟨v', rfl, by rw [HR.out, List.length_append, cellsQ_append]; exact Own.out, HQ'.out⟩
  · rw [decide_eq_false h43] at e43
    by_cases h45 : v = 45
    · rw [decide_eq_true h45] at e45
      have HR : Hid (pairsA (a0, a1) (t0, t1) v = [(t0, t1)]) := by unfold Hid; rw [h45]; rfl
      clear h43 h45
      generalize (v.toNat : Int) = vv at *
      go_enter Try.func71, Try.ntmps71
      go_upto_region 5 with fail
      generalize (w.alloc (Obj.cells #[.int .i64 a0, .int .i64 a1] 46)).alloc (Obj.cells #[.int .i64 t0, .int .i64 t1] 46) = W at *
      obtain ⟨x0, _⟩ := HOT.out.2 0 _ rfl
      obtain ⟨x1, _⟩ := HOT.out.2 1 _ rfl
      have HO1 := Lib.hid (row_kept HO.out ((Q.refl W).alloc (Obj.cells #[.int .i64 t0, .int .i64 t1] 46)) (Nat.le_refl _))
      have HB1 := Lib.hid (HQ.out.alloc hbW (Obj.cells #[.int .i64 t0, .int .i64 t1] 46))
      have hb1 : base ≤ (W.alloc (Obj.cells #[.int .i64 t0, .int .i64 t1] 46)).heap.size := Nat.le_trans hbW ((Q.refl W).alloc _).size
      have HS1 := Lib.hid (src_alloc W [.int .i64 t0, .int .i64 t1] 46 (0, 0))
      go_wp2_with (at_builtin; refine wpList_append_src _ rfl (.tmp 18) (.tmp 20) _ rfl base 46 i0 _ 2 16 Try.underlying31 Hi.out Hz0.out Hz1.out Hz2.out rfl (by omega) u o.length (cellsQ o) rfl HO1.out (some ⟨W.heap.size, 0, none⟩) 1 1 [.int .i64 t0, .int .i64 t1] rfl rfl HS1.out (by simp [Value.oneCell']) (by unfold maxLen; omega) (by omega) hb1 ?_; intro v' w' own' gr' _; have Own := Lib.hid own'; have HQ' : Hid (Below base w w') := Below.grown HB1.out gr' hb1 (fun k e => (HO1.out.lt k e).1); clear own' gr')
      go_ret
      exact ⟨v', rfl, by rw [HR.out, List.length_append, cellsQ_append]; exact Own.out, HQ'.out⟩
    · rw [decide_eq_false h45] at e45
      have HR : Hid (pairsA (a0, a1) (t0, t1) v = [(a0, a1), (t0, t1)]) := by unfold Hid pairsA; rw [if_pos h45, if_pos h43]; rfl
      clear h43 h45
      generalize (v.toNat : Int) = vv at *
      go_enter Try.func71, Try.ntmps71
      go_upto_region 6 with fail
      generalize (w.alloc (Obj.cells #[.int .i64 a0, .int .i64 a1] 46)).alloc (Obj.cells #[.int .i64 t0, .int .i64 t1] 46) = W at *
      obtain ⟨x0, _⟩ := HOA.out.2 0 _ rfl
      obtain ⟨x1, _⟩ := HOA.out.2 1 _ rfl
      obtain ⟨y0, _⟩ := HOT.out.2 0 _ rfl
      obtain ⟨y1, _⟩ := HOT.out.2 1 _ rfl
      have HO1 := Lib.hid (row_kept HO.out ((Q.refl W).alloc (Obj.cells #[.int .i64 a0, .int .i64 a1, .int .i64 t0, .int .i64 t1] 46)) (Nat.le_refl _))
      have HB1 := Lib.hid (HQ.out.alloc hbW (Obj.cells #[.int .i64 a0, .int .i64 a1, .int .i64 t0, .int .i64 t1] 46))
      have hb1 : base ≤ (W.alloc (Obj.cells #[.int .i64 a0, .int .i64 a1, .int .i64 t0, .int .i64 t1] 46)).heap.size := Nat.le_trans hbW ((Q.refl W).alloc _).size
      have HS1 := Lib.hid (src_alloc W [.int .i64 a0, .int .i64 a1, .int .i64 t0, .int .i64 t1] 46 (0, 0))
      go_wp2_with (at_builtin; refine wpList_append_src _ rfl (.tmp 22) (.tmp 25) _ rfl base 46 i0 _ 2 16 Try.underlying31 Hi.out Hz0.out Hz1.out Hz2.out rfl (by omega) u o.length (cellsQ o) rfl HO1.out (some ⟨W.heap.size, 0, none⟩) 2 2 [.int .i64 a0, .int .i64 a1, .int .i64 t0, .int .i64 t1] rfl rfl HS1.out (by simp [Value.oneCell']) (by unfold maxLen; omega) (by omega) hb1 ?_; intro v' w' own' gr' _; have Own := Lib.hid own'; have HQ' : Hid (Below base w w') := Below.grown HB1.out gr' hb1 (fun k e => (HO1.out.lt k e).1); clear own' gr')
      go_ret
      exact ⟨v', rfl, by rw [HR.out, List.length_append, cellsQ_append]; exact Own.out, HQ'.out⟩
end Go.Proofs.Ytjehccemilefgaa.St

namespace Go.Proofs.Ytjehccemilefgaa.St
open Go.RowKit Kit Rw Go.Maps Go.WideMaps
open Go.Proofs.Ytjehccemilefgaa.Tm (Wf)
end Go.Proofs.Ytjehccemilefgaa.St

namespace Go.Proofs
open Go.Shelf
end Go.Proofs

namespace Go.Proofs.Ytjehccemilefgaa.St
open Go.RowKit Kit Rw Go.Lib Go.Sort
open Go.Proofs.Ytjehccemilefgaa.Tm (Wf)
end Go.Proofs.Ytjehccemilefgaa.St

namespace Go.Proofs.Ytjehccemilefgaa.St
open Go.RowKit Kit Rw Go.Lib Go.Sort Go.Shelf

end Go.Proofs.Ytjehccemilefgaa.St

namespace Go.Proofs.Ytjehccemilefgaa.St
open Go.RowKit Kit Rw
open Go.Proofs.Ytjehccemilefgaa.Sg (Sig Row)
open Go.Proofs.Ytjehccemilefgaa.Hs (Ints Keys BoxT)
open Go.Proofs.Ytjehccemilefgaa.Tm (Tm Store termAt Box4 isPl isPl_iff)
def pairC (R : Option Addr) (nl cl : Nat) (x y : Int) (s : Tm) (A1 : Option Addr) (c1 : Nat) (t : Tm) (A2 : Option Addr) (c2 : Nat) : List Value :=
  [.slice R nl cl, .int .i64 x, .int .i64 y, .int .i64 s.k, .int .i64 s.s, .int .i64 s.p, .slice A1 s.xs.length c1, .int .i64 t.k, .int .i64 t.s, .int .i64 t.p, .slice A2 t.xs.length c2]
structure PairB (W : World) (B : Nat) (R : Option Addr) (cl : Nat) (L : List Sig) (x y : Int) (s : Tm) (A1 : Option Addr) (c1 : Nat) (t : Tm) (A2 : Option Addr) (c2 : Nat) : Prop where
  box : OwnC W B (pairC R L.length cl x y s A1 c1 t A2 c2)
  row : Row W W.heap.size R L
  i1 : Ints W W.heap.size A1 s.xs
  i2 : Ints W W.heap.size A2 t.xs
theorem PairB.q {W W' : World} {B : Nat} {R : Option Addr} {cl : Nat} {L : List Sig} {x y : Int} {s : Tm} {A1 : Option Addr} {c1 : Nat} {t : Tm} {A2 : Option Addr} {c2 : Nat} (h : PairB W B R cl L x y s A1 c1 t A2 c2) (q : Q W W') : PairB W' B R cl L x y s A1 c1 t A2 c2 :=
  ⟨h.box.q q, (h.row.q (Nat.le_refl _) q).more q.size, (h.i1.q (Nat.le_refl _) q).more q.size, (h.i2.q (Nat.le_refl _) q).more q.size⟩
theorem way_kind (w : World) : OwnC (w.alloc (Obj.cells #[.int .i64 0, .slice none 0 0] 33)) w.heap.size [.int .i64 0, .slice none 0 0] := Ex.own_new8 w [.int .i64 0, .slice none 0 0] 33
theorem done10_any (v : Value) (w : World) : Calls Try.prog 51 #[v] w (WayPost (0, []) w) := by
  have HR8 := Lib.hid (way_kind w)
  have HQ0 := Lib.hid ((Q.refl w).alloc (Obj.cells #[.int .i64 0, .slice none 0 0] 33))
  go_enter Try.func51, Try.ntmps51
  go_upto_region 1 with fail
  generalize w.alloc (Obj.cells #[.int .i64 0, .slice none 0 0] 33) = W at *
  obtain ⟨z00, z01⟩ := HR8.out.2 0 _ rfl
  obtain ⟨z10, z11⟩ := HR8.out.2 1 _ rfl
  go_wp2_with fail
  obtain ⟨⟨y0, y1⟩, hrd, hqw⟩ := way_close (w := w) (A := none) (l := []) (.int .i64 0) (.slice none 0 0) HR8.out (Nat.le_refl _) HQ0.out (Rds.nil _ _ _) (fun h => absurd h (by simp))
  exact bodyPost_ret (v := .agg #[.int .i64 0, .slice none 0 0]) (by simp [results, Try.f51, go_sem, y0, y1]) rfl ⟨none, 0, rfl, hrd, hqw, fun _ h => by cases h⟩
theorem atom10_any (v : Value) (w : World) : Calls Try.prog 54 #[v] w (WayPost (2, []) w) := by
  have HR8 := Lib.hid (way_kind w)
  have HQ0 := Lib.hid ((Q.refl w).alloc (Obj.cells #[.int .i64 0, .slice none 0 0] 33))
  go_enter Try.func54, Try.ntmps54
  go_upto_region 1 with fail
  generalize w.alloc (Obj.cells #[.int .i64 0, .slice none 0 0] 33) = W at *
  obtain ⟨z00, z01⟩ := HR8.out.2 0 _ rfl
  obtain ⟨z10, z11⟩ := HR8.out.2 1 _ rfl
  go_wp2_with fail
  obtain ⟨⟨y0, y1⟩, hrd, hqw⟩ := way_close (w := w) (A := none) (l := []) (.int .i64 2) (.slice none 0 0) HR8.out (Nat.le_refl _) HQ0.out (Rds.nil _ _ _) (fun h => absurd h (by simp))
  exact bodyPost_ret (v := .agg #[.int .i64 2, .slice none 0 0]) (by simp [results, Try.f54, go_sem, y0, y1]) rfl ⟨none, 0, rfl, hrd, hqw, fun _ h => by cases h⟩
theorem clash10_any (v : Value) (w : World) : Calls Try.prog 58 #[v] w (WayPost (3, []) w) := by
  have HR8 := Lib.hid (way_kind w)
  have HQ0 := Lib.hid ((Q.refl w).alloc (Obj.cells #[.int .i64 0, .slice none 0 0] 33))
  go_enter Try.func58, Try.ntmps58
  go_upto_region 1 with fail
  generalize w.alloc (Obj.cells #[.int .i64 0, .slice none 0 0] 33) = W at *
  obtain ⟨z00, z01⟩ := HR8.out.2 0 _ rfl
  obtain ⟨z10, z11⟩ := HR8.out.2 1 _ rfl
  go_wp2_with fail
  obtain ⟨⟨y0, y1⟩, hrd, hqw⟩ := way_close (w := w) (A := none) (l := []) (.int .i64 3) (.slice none 0 0) HR8.out (Nat.le_refl _) HQ0.out (Rds.nil _ _ _) (fun h => absurd h (by simp))
  exact bodyPost_ret (v := .agg #[.int .i64 3, .slice none 0 0]) (by simp [results, Try.f58, go_sem, y0, y1]) rfl ⟨none, 0, rfl, hrd, hqw, fun _ h => by cases h⟩
set_option maxRecDepth 100000 in
set_option maxHeartbeats 4000000 in
theorem eachOnLeft10_any (B : Nat) (R : Option Addr) (cl : Nat) (L : List Sig) (x y : Int) (s : Tm) (A1 : Option Addr) (c1 : Nat) (t : Tm) (A2 : Option Addr) (c2 : Nat) (w : World) (h : PairB w B R cl L x y s A1 c1 t A2 c2) (hl : s.xs.length ≤ 1000) :
    Calls Try.prog 52 #[.pointer (some ⟨B, 0, none⟩)] w (WayPost (1, s.xs.map (fun a : Int => ((a, y) : PI))) w) := by
  obtain ⟨i0, hi, hz0, hz1, hz2⟩ := info_parts pairInfo
  have Hi := Lib.hid hi
  have Hz0 := Lib.hid hz0
  have Hz1 := Lib.hid hz1
  have Hz2 := Lib.hid hz2
  clear hi hz0 hz1 hz2
  have q0 := (Q.refl w).alloc (Obj.cells #[.int .i64 0, .slice none 0 0] 33)
  have HB := Lib.hid (h.q q0)
  have HQ0 := Lib.hid q0
  have HR8 := Lib.hid (way_kind w)
  clear h q0
  obtain ⟨x0, _⟩ := HB.out.box.2 6 _ rfl
  go_enter Try.func52, Try.ntmps52
  go_wp2_with fail
  clear x0
  generalize w.alloc (Obj.cells #[.int .i64 0, .slice none 0 0] 33) = W at *
  go_loopw [3, 12] (fun u iv wr => ∃ (k : Nat) (P : List PI) (v : Value), k ≤ s.xs.length ∧ iv = .int .i64 k ∧ v = u ∧ P.length = k ∧ Hid (P = (s.xs.take k).map (fun a : Int => ((a, y) : PI))) ∧ Hid (wr.ownsRow W.heap.size 46 2 v P.length (cellsQ P)) ∧ Hid (Q W wr)) (fun _ iv _ => s.xs.length - (intOf iv).toNat)
  case atStart => exact ⟨0, [], _, Nat.zero_le _, rfl, rfl, rfl, Lib.hid (by simp), Lib.hid (own_nil W _ _ _), Lib.hid (Q.refl W)⟩
  case round =>
    obtain ⟨k, P, v, hk, rfl, rfl, hPl, HP, HO, HQ⟩ := hrel
    by_cases hkl : k < s.xs.length
    · obtain ⟨ad, rfl, had, e0⟩ := (HB.out.q HQ.out).i1.at_ hkl
      obtain ⟨z0, _⟩ := (HB.out.q HQ.out).box.2 2 _ rfl
      have d0 : decide ((k : Int) < (s.xs.length : Int)) = true := decide_eq_true (by omega)
      have d1 : (k : Int) < (s.xs.length : Int) := by omega
      have d2 : (0 : Int) ≤ (k : Int) := Int.natCast_nonneg _
      have HP2 : Hid (P ++ [(s.xs[k], y)] = (s.xs.take (k + 1)).map (fun a : Int => ((a, y) : PI))) := by unfold Hid; rw [HP.out, List.take_succ_eq_append_getElem hkl, List.map_append]; rfl
      have HO1 := Lib.hid (row_kept HO.out ((Q.refl wr).alloc (Obj.cells #[.int .i64 s.xs[k], .int .i64 y] 46)) (Nat.le_refl _))
      have HB1 := Lib.hid (HQ.out.alloc (Obj.cells #[.int .i64 s.xs[k], .int .i64 y] 46))
      have hb1 : W.heap.size ≤ (wr.alloc (Obj.cells #[.int .i64 s.xs[k], .int .i64 y] 46)).heap.size := Nat.le_trans HQ.out.size ((Q.refl wr).alloc _).size
      have HS1 := Lib.hid (src_alloc wr [.int .i64 s.xs[k], .int .i64 y] 46 (0, 0))
      have HPL := Lib.hid hPl
      clear HP hPl
      generalize s.xs[k] = xk at *
      go_wp2_with (at_builtin; refine wpList_append_src _ rfl (.tmp 16) (.tmp 23) _ rfl W.heap.size 46 i0 _ 2 16 Try.underlying31 Hi.out Hz0.out Hz1.out Hz2.out rfl (by omega) v P.length (cellsQ P) rfl HO1.out (some ⟨wr.heap.size, 0, none⟩) 1 1 [.int .i64 xk, .int .i64 y] rfl rfl HS1.out (by simp [Value.oneCell']) (by rw [HPL.out]; unfold maxLen; omega) (by rw [HPL.out]; omega) hb1 ?_; intro v' w' own' gr' _; have Own := Lib.hid own'; have HQ' : Hid (Below W.heap.size W w') := Below.grown HB1.out gr' hb1 (fun k e => (HO1.out.lt k e).1); clear own' gr')
      go_roundw
      case rel => exact ⟨k + 1, P ++ [(xk, y)], v', by omega, by go_num, rfl, by rw [List.length_append, HPL.out]; rfl, HP2, by unfold Hid; rw [List.length_append, cellsQ_append]; exact Own.out, HQ'⟩
      case measure => simp [intOf]; omega
    · have hkx : k = s.xs.length := by omega
      have HP2 : Hid (s.xs.map (fun a : Int => ((a, y) : PI)) = P) := by unfold Hid; rw [HP.out, hkx, List.take_length]
      obtain ⟨A5, c5, rfl, hr5, hA5⟩ := own_open HO.out
      have d0 : decide ((k : Int) < (s.xs.length : Int)) = false := decide_eq_false (by omega)
      obtain ⟨⟨y0, y1⟩, hrd, hqw⟩ := way_close (w := w) (l := P) (.int .i64 1) (.slice A5 P.length c5) (HR8.out.q HQ.out) (Nat.le_refl _) (HQ0.out.trans HQ.out) hr5 (fun _ ad ha => Nat.ne_of_gt (Nat.lt_of_lt_of_le HR8.out.1 (hA5 ad ha)))
      have Y0 := Lib.hid y0
      have Y1 := Lib.hid y1
      have HRD := Lib.hid hrd
      have HQW := Lib.hid hqw
      have HFA := Lib.hid hA5
      obtain ⟨z00, z01⟩ := (HR8.out.q HQ.out).2 0 _ rfl
      obtain ⟨z10, z11⟩ := (HR8.out.q HQ.out).2 1 _ rfl
      clear y0 y1 hrd hqw hr5 hA5 HP hPl hkx hk
      go_wp2_with fail
      have y0 := Y0.out
      have y1 := Y1.out
      exact bodyPost_ret (v := .agg #[.int .i64 1, .slice A5 P.length c5]) (by simp [results, Try.f52, go_sem, y0, y1]) rfl ⟨_, _, by rw [HP2.out], by rw [HP2.out]; exact HRD.out, HQW.out, fun ad ha => Nat.le_trans HQ0.out.size (HFA.out ad ha)⟩
set_option maxRecDepth 100000 in
set_option maxHeartbeats 4000000 in
theorem eachOnRight10_any (B : Nat) (R : Option Addr) (cl : Nat) (L : List Sig) (x y : Int) (s : Tm) (A1 : Option Addr) (c1 : Nat) (t : Tm) (A2 : Option Addr) (c2 : Nat) (w : World) (h : PairB w B R cl L x y s A1 c1 t A2 c2) (hl : t.xs.length ≤ 1000) :
    Calls Try.prog 53 #[.pointer (some ⟨B, 0, none⟩)] w (WayPost (1, t.xs.map (fun a : Int => ((x, a) : PI))) w) := by
  obtain ⟨i0, hi, hz0, hz1, hz2⟩ := info_parts pairInfo
  have Hi := Lib.hid hi
  have Hz0 := Lib.hid hz0
  have Hz1 := Lib.hid hz1
  have Hz2 := Lib.hid hz2
  clear hi hz0 hz1 hz2
  have q0 := (Q.refl w).alloc (Obj.cells #[.int .i64 0, .slice none 0 0] 33)
  have HB := Lib.hid (h.q q0)
  have HQ0 := Lib.hid q0
  have HR8 := Lib.hid (way_kind w)
  clear h q0
  obtain ⟨x0, _⟩ := HB.out.box.2 10 _ rfl
  go_enter Try.func53, Try.ntmps53
  go_wp2_with fail
  clear x0
  generalize w.alloc (Obj.cells #[.int .i64 0, .slice none 0 0] 33) = W at *
  go_loopw [3, 12] (fun u iv wr => ∃ (k : Nat) (P : List PI) (v : Value), k ≤ t.xs.length ∧ iv = .int .i64 k ∧ v = u ∧ P.length = k ∧ Hid (P = (t.xs.take k).map (fun a : Int => ((x, a) : PI))) ∧ Hid (wr.ownsRow W.heap.size 46 2 v P.length (cellsQ P)) ∧ Hid (Q W wr)) (fun _ iv _ => t.xs.length - (intOf iv).toNat)
  case atStart => exact ⟨0, [], _, Nat.zero_le _, rfl, rfl, rfl, Lib.hid (by simp), Lib.hid (own_nil W _ _ _), Lib.hid (Q.refl W)⟩
  case round =>
    obtain ⟨k, P, v, hk, rfl, rfl, hPl, HP, HO, HQ⟩ := hrel
    by_cases hkl : k < t.xs.length
    · obtain ⟨ad, rfl, had, e0⟩ := (HB.out.q HQ.out).i2.at_ hkl
      obtain ⟨z0, _⟩ := (HB.out.q HQ.out).box.2 1 _ rfl
      have d0 : decide ((k : Int) < (t.xs.length : Int)) = true := decide_eq_true (by omega)
      have d1 : (k : Int) < (t.xs.length : Int) := by omega
      have d2 : (0 : Int) ≤ (k : Int) := Int.natCast_nonneg _
      have HP2 : Hid (P ++ [(x, t.xs[k])] = (t.xs.take (k + 1)).map (fun a : Int => ((x, a) : PI))) := by unfold Hid; rw [HP.out, List.take_succ_eq_append_getElem hkl, List.map_append]; rfl
      have HO1 := Lib.hid (row_kept HO.out ((Q.refl wr).alloc (Obj.cells #[.int .i64 x, .int .i64 t.xs[k]] 46)) (Nat.le_refl _))
      have HB1 := Lib.hid (HQ.out.alloc (Obj.cells #[.int .i64 x, .int .i64 t.xs[k]] 46))
      have hb1 : W.heap.size ≤ (wr.alloc (Obj.cells #[.int .i64 x, .int .i64 t.xs[k]] 46)).heap.size := Nat.le_trans HQ.out.size ((Q.refl wr).alloc _).size
      have HS1 := Lib.hid (src_alloc wr [.int .i64 x, .int .i64 t.xs[k]] 46 (0, 0))
      have HPL := Lib.hid hPl
      clear HP hPl
      generalize t.xs[k] = xk at *
      go_wp2_with (at_builtin; refine wpList_append_src _ rfl (.tmp 16) (.tmp 23) _ rfl W.heap.size 46 i0 _ 2 16 Try.underlying31 Hi.out Hz0.out Hz1.out Hz2.out rfl (by omega) v P.length (cellsQ P) rfl HO1.out (some ⟨wr.heap.size, 0, none⟩) 1 1 [.int .i64 x, .int .i64 xk] rfl rfl HS1.out (by simp [Value.oneCell']) (by rw [HPL.out]; unfold maxLen; omega) (by rw [HPL.out]; omega) hb1 ?_; intro v' w' own' gr' _; have Own := Lib.hid own'; have HQ' : Hid (Below W.heap.size W w') := Below.grown HB1.out gr' hb1 (fun k e => (HO1.out.lt k e).1); clear own' gr')
      go_roundw
      case rel => exact ⟨k + 1, P ++ [(x, xk)], v', by omega, by go_num, rfl, by rw [List.length_append, HPL.out]; rfl, HP2, by unfold Hid; rw [List.length_append, cellsQ_append]; exact Own.out, HQ'⟩
      case measure => simp [intOf]; omega
    · have hkx : k = t.xs.length := by omega
      have HP2 : Hid (t.xs.map (fun a : Int => ((x, a) : PI)) = P) := by unfold Hid; rw [HP.out, hkx, List.take_length]
      obtain ⟨A5, c5, rfl, hr5, hA5⟩ := own_open HO.out
      have d0 : decide ((k : Int) < (t.xs.length : Int)) = false := decide_eq_false (by omega)
      obtain ⟨⟨y0, y1⟩, hrd, hqw⟩ := way_close (w := w) (l := P) (.int .i64 1) (.slice A5 P.length c5) (HR8.out.q HQ.out) (Nat.le_refl _) (HQ0.out.trans HQ.out) hr5 (fun _ ad ha => Nat.ne_of_gt (Nat.lt_of_lt_of_le HR8.out.1 (hA5 ad ha)))
      have Y0 := Lib.hid y0
      have Y1 := Lib.hid y1
      have HRD := Lib.hid hrd
      have HQW := Lib.hid hqw
      have HFA := Lib.hid hA5
      obtain ⟨z00, z01⟩ := (HR8.out.q HQ.out).2 0 _ rfl
      obtain ⟨z10, z11⟩ := (HR8.out.q HQ.out).2 1 _ rfl
      clear y0 y1 hrd hqw hr5 hA5 HP hPl hkx hk
      go_wp2_with fail
      have y0 := Y0.out
      have y1 := Y1.out
      exact bodyPost_ret (v := .agg #[.int .i64 1, .slice A5 P.length c5]) (by simp [results, Try.f53, go_sem, y0, y1]) rfl ⟨_, _, by rw [HP2.out], by rw [HP2.out]; exact HRD.out, HQW.out, fun ad ha => Nat.le_trans HQ0.out.size (HFA.out ad ha)⟩
end Go.Proofs.Ytjehccemilefgaa.St

namespace Go.Proofs.Ytjehccemilefgaa.St
open Go.RowKit Kit Rw
open Go.Proofs.Ytjehccemilefgaa.Sg (Sig Row)
open Go.Proofs.Ytjehccemilefgaa.Hs (Ints Keys BoxT)
open Go.Proofs.Ytjehccemilefgaa.Tm (Tm Store termAt Box4 isPl isPl_iff)
set_option maxRecDepth 100000 in
set_option maxHeartbeats 4000000 in
theorem partOfAll10_any (B : Nat) (R : Option Addr) (cl : Nat) (L : List Sig) (x y : Int) (s : Tm) (A1 : Option Addr) (c1 : Nat) (t : Tm) (A2 : Option Addr) (c2 : Nat) (w : World) (h : PairB w B R cl L x y s A1 c1 t A2 c2) (b : Nat) (ht : TOk L b t) (h6 : t.k = 6) (hl8 : ∀ s ∈ L, s.2.size ≤ 8) :
    Calls Try.prog 55 #[.pointer (some ⟨B, 0, none⟩)] w (WayPost (1, pairsA (x, t.xs.headD 0) (t.xs.headD 0, 0) (varyN L t.s t.p.toNat)) w) := by
  have q0 := (Q.refl w).alloc (Obj.cells #[.int .i64 0, .slice none 0 0] 33)
  have HB := Lib.hid (h.q q0)
  have HQ0 := Lib.hid q0
  have HR8 := Lib.hid (way_kind w)
  clear h q0
  obtain ⟨e, hxs⟩ : ∃ e, t.xs = [e] := by
    cases ht with
    | leaf _ h => omega
    | con j h h3 => omega
    | two a b h => omega
    | proj j m h e _ _ _ _ hx => exact ⟨e, hx⟩
  have HT := Lib.hid ht
  have H6 := Lib.hid h6
  have H8 := Lib.hid hl8
  have HXS := Lib.hid hxs
  have HL1 : Hid (t.xs.length = 1) := by unfold Hid; rw [hxs]; rfl
  have HW : Hid (pairsA (x, t.xs.headD 0) (t.xs.headD 0, 0) (varyN L t.s t.p.toNat) = pairsA (x, e) (e, 0) (varyN L t.s t.p.toNat)) := by unfold Hid; rw [hxs]; rfl
  obtain ⟨RS, hRS⟩ : ∃ r, pairsA (x, t.xs.headD 0) (t.xs.headD 0, 0) (varyN L t.s t.p.toNat) = r := ⟨_, rfl⟩
  rw [hRS] at HW ⊢
  clear ht h6 hl8 hRS
  go_enter Try.func55, Try.ntmps55
  go_upto_region 1 with fail
  generalize w.alloc (Obj.cells #[.int .i64 0, .slice none 0 0] 33) = W at *
  have hx10 : W.cell? ⟨B, 10, none⟩ = some (.slice A2 1 c2) := (HB.out.box.2 10 _ rfl).1.trans (by rw [HL1.out])
  have x0 := (HB.out.box.2 0 _ rfl).1
  have x1 := (HB.out.box.2 1 _ rfl).1
  have x7 := (HB.out.box.2 7 _ rfl).1
  have x8 := (HB.out.box.2 8 _ rfl).1
  have x9 := (HB.out.box.2 9 _ rfl).1
  have hBl := HB.out.box.1
  have hS : Hid (∀ U, Q W U → (U.cell? ⟨B, 0, none⟩ = some (.slice R L.length cl) ∧ U.cell? ⟨B, 1, none⟩ = some (.int .i64 x) ∧ U.cell? ⟨B, 7, none⟩ = some (.int .i64 t.k) ∧ U.cell? ⟨B, 8, none⟩ = some (.int .i64 t.s) ∧ U.cell? ⟨B, 9, none⟩ = some (.int .i64 t.p) ∧ U.cell? ⟨B, 10, none⟩ = some (.slice A2 1 c2))) := fun U q => ⟨(q.cell (p := ⟨B, 0, none⟩) hBl).trans x0, (q.cell (p := ⟨B, 1, none⟩) hBl).trans x1, (q.cell (p := ⟨B, 7, none⟩) hBl).trans x7, (q.cell (p := ⟨B, 8, none⟩) hBl).trans x8, (q.cell (p := ⟨B, 9, none⟩) hBl).trans x9, (q.cell (p := ⟨B, 10, none⟩) hBl).trans hx10⟩
  obtain ⟨ad, rfl, had, e0⟩ := HB.out.i2.at_ (k := 0) (by rw [HL1.out]; omega)
  have e1 : W.cell? ad = some (.int .i64 e) := by
    have := e0
    simp only [HXS.out] at this
    simpa [Addr.add] using this
  clear e0 hxs
  go_upto_region 2 with fail
  clear x0 x1 x7 x8 x9 hx10 hBl e1 had
  have CV := Lib.hid (fun U (q : Q W U) => vary10_any R (some ad) L.length cl 1 c2 b L t U rfl (HB.out.q q).row HT.out H8.out)
  have CW := Lib.hid (fun U (q : Q W U) v => varied10_any W.heap.size [] (.slice none 0 0) v (x, e) (e, 0) U (own_nil U _ _ _) q.size (by simp))
  refine wp_region_held_drew (S := fun w' => w'.cell? ⟨B, 0, none⟩ = some (.slice R L.length cl) ∧ w'.cell? ⟨B, 1, none⟩ = some (.int .i64 x) ∧ w'.cell? ⟨B, 7, none⟩ = some (.int .i64 t.k) ∧ w'.cell? ⟨B, 8, none⟩ = some (.int .i64 t.s) ∧ w'.cell? ⟨B, 9, none⟩ = some (.int .i64 t.p) ∧ w'.cell? ⟨B, 10, none⟩ = some (.slice (some ad) 1 c2)) (by kernel_rfl) ?_ (fun hHeld => ?_)
  · exact hS.out _ (Q.refl W).drew
  refine take_w (i := 0) (d := some 12) (v := ?_) rfl (by kernel_rfl) (by kernel_rfl) (by kernel_rfl) (fun _ _ _ h => h) rfl (by rfl) ?_ (by assumption) ?_
  rotate_left
  · (intro w hSw; (try dsimp only at hSw); go_simp; (try with_reducible rfl))
  try simp only [Act.put, List.setIfInBounds_toArray, List.set_cons_zero, List.set_cons_succ]
  refine take_w (i := 1) (d := some 13) (v := ?_) rfl (by kernel_rfl) (by kernel_rfl) (by kernel_rfl) (fun _ _ _ h => h) rfl (by rfl) ?_ (by assumption) ?_
  rotate_left
  · (intro w hSw; (try dsimp only at hSw); go_simp; (try with_reducible rfl))
  try simp only [Act.put, List.setIfInBounds_toArray, List.set_cons_zero, List.set_cons_succ]
  refine take_w (i := 2) (d := some 14) (v := ?_) rfl (by kernel_rfl) (by kernel_rfl) (by kernel_rfl) (fun _ _ _ h => h) rfl (by rfl) ?_ (by assumption) ?_
  rotate_left
  · (intro w hSw; (try dsimp only at hSw); go_simp; (try with_reducible rfl))
  try simp only [Act.put, List.setIfInBounds_toArray, List.set_cons_zero, List.set_cons_succ]
  refine take_w (i := 3) (d := some 15) (v := ?_) rfl (by kernel_rfl) (by kernel_rfl) (by kernel_rfl) (fun _ _ _ h => h) rfl (by rfl) ?_ (by assumption) ?_
  rotate_left
  · (intro w hSw; (try dsimp only at hSw); go_simp; (try with_reducible rfl))
  try simp only [Act.put, List.setIfInBounds_toArray, List.set_cons_zero, List.set_cons_succ]
  refine take_w (i := 4) (d := some 16) (v := ?_) rfl (by kernel_rfl) (by kernel_rfl) (by kernel_rfl) (fun _ _ _ h => h) rfl (by rfl) ?_ (by assumption) ?_
  rotate_left
  · (intro w hSw; (try dsimp only at hSw); go_simp; (try with_reducible rfl))
  try simp only [Act.put, List.setIfInBounds_toArray, List.set_cons_zero, List.set_cons_succ]
  refine take_w (i := 5) (d := some 17) (v := ?_) rfl (by kernel_rfl) (by kernel_rfl) (by kernel_rfl) (fun _ _ _ h => h) rfl (by rfl) ?_ (by assumption) ?_
  rotate_left
  · (intro w hSw; (try dsimp only at hSw); go_simp; (try with_reducible rfl))
  try simp only [Act.put, List.setIfInBounds_toArray, List.set_cons_zero, List.set_cons_succ]
  refine take_w (i := 6) (d := some 18) (v := ?_) rfl (by kernel_rfl) (by kernel_rfl) (by kernel_rfl) (fun _ _ _ h => h) rfl (by rfl) ?_ (by assumption) ?_
  rotate_left
  · (intro w hSw; (try dsimp only at hSw); go_simp; (try with_reducible rfl))
  try simp only [Act.put, List.setIfInBounds_toArray, List.set_cons_zero, List.set_cons_succ]
  refine take_w (i := 7) (d := some 19) (v := ?_) rfl (by kernel_rfl) (by kernel_rfl) (by kernel_rfl) (fun _ _ _ h => h) rfl (by rfl) ?_ (by assumption) ?_
  rotate_left
  · (intro w hSw; (try dsimp only at hSw); go_simp; (try with_reducible rfl))
  try simp only [Act.put, List.setIfInBounds_toArray, List.set_cons_zero, List.set_cons_succ]
  refine take_w (i := 10) (d := some 22) (v := ?_) rfl (by kernel_rfl) (by kernel_rfl) (by kernel_rfl) (fun _ _ _ h => h) rfl (by rfl) ?_ (by assumption) ?_
  rotate_left
  · (intro w hSw; (try dsimp only at hSw); go_simp; (try with_reducible rfl))
  try simp only [Act.put, List.setIfInBounds_toArray, List.set_cons_zero, List.set_cons_succ]
  refine take_w (i := 11) (d := some 23) (v := ?_) rfl (by kernel_rfl) (by kernel_rfl) (by kernel_rfl) (fun _ _ _ h => h) rfl (by rfl) ?_ (by assumption) ?_
  rotate_left
  · (intro w hSw; (try dsimp only at hSw); go_simp; (try with_reducible rfl))
  try simp only [Act.put, List.setIfInBounds_toArray, List.set_cons_zero, List.set_cons_succ]
  refine take_w (i := 12) (d := some 24) (v := ?_) rfl (by kernel_rfl) (by kernel_rfl) (by kernel_rfl) (fun _ _ _ h => h) rfl (by rfl) ?_ (by assumption) ?_
  rotate_left
  · (intro w hSw; (try dsimp only at hSw); go_simp; (try with_reducible rfl))
  try simp only [Act.put, List.setIfInBounds_toArray, List.set_cons_zero, List.set_cons_succ]
  refine take_w (i := 13) (d := some 25) (v := ?_) rfl (by kernel_rfl) (by kernel_rfl) (by kernel_rfl) (fun _ _ _ h => h) rfl (by rfl) ?_ (by assumption) ?_
  rotate_left
  · (intro w hSw; (try dsimp only at hSw); go_simp; (try with_reducible rfl))
  try simp only [Act.put, List.setIfInBounds_toArray, List.set_cons_zero, List.set_cons_succ]
  refine take_w (i := 14) (d := some 26) (v := ?_) rfl (by kernel_rfl) (by kernel_rfl) (by kernel_rfl) (fun _ _ _ h => h) rfl (by rfl) ?_ (by assumption) ?_
  rotate_left
  · (intro w hSw; (try dsimp only at hSw); go_simp; (try with_reducible rfl))
  try simp only [Act.put, List.setIfInBounds_toArray, List.set_cons_zero, List.set_cons_succ]
  refine take_w (i := 15) (d := some 27) (v := ?_) rfl (by kernel_rfl) (by kernel_rfl) (by kernel_rfl) (fun _ _ _ h => h) rfl (by rfl) ?_ (by assumption) ?_
  rotate_left
  · (intro w hSw; (try dsimp only at hSw); go_simp; (try with_reducible rfl))
  try simp only [Act.put, List.setIfInBounds_toArray, List.set_cons_zero, List.set_cons_succ]
  refine take_w (i := 16) (d := some 28) (v := ?_) rfl (by kernel_rfl) (by kernel_rfl) (by kernel_rfl) (fun _ _ _ h => h) rfl (by rfl) ?_ (by assumption) ?_
  rotate_left
  · (intro w hSw; (try dsimp only at hSw); go_simp; (try with_reducible rfl))
  try simp only [Act.put, List.setIfInBounds_toArray, List.set_cons_zero, List.set_cons_succ]
  refine take_w (i := 17) (d := some 29) (v := ?_) rfl (by kernel_rfl) (by kernel_rfl) (by kernel_rfl) (fun _ _ _ h => h) rfl (by rfl) ?_ (by assumption) ?_
  rotate_left
  · (intro w hSw; (try dsimp only at hSw); go_simp; (try with_reducible rfl))
  try simp only [Act.put, List.setIfInBounds_toArray, List.set_cons_zero, List.set_cons_succ]
  refine call_w (i := 8) rfl (by kernel_rfl) (by rfl) (fun K hK => ?_)
  go_simp
  go_at_call 33
  refine (CV.out _ (Q.refl W).drew).mono ?_
  rintro e5 w5 ⟨bs, rfl, hvb, hv6, q5⟩
  have p5 := (Q.refl W).drew.trans q5
  obtain ⟨hb0, hb1⟩ := hv6 H6.out
  have hb2 : (0 : Int) < (bs.size : Int) := by omega
  have HB1 := Lib.hid (hb1 hb0)
  clear hb1 hvb hv6
  refine hK.out _ _ ?_ (fun hHeld => ?_)
  · exact hS.out _ p5
  clear hK K
  try simp only [Act.put, List.setIfInBounds_toArray, List.set_cons_zero, List.set_cons_succ]
  refine take_w (i := 9) (d := some 21) (v := ?_) rfl (by kernel_rfl) (by kernel_rfl) (by kernel_rfl) (fun _ _ _ h => h) rfl (by rfl) ?_ (by assumption) ?_
  rotate_left
  · (intro w hSw; (try dsimp only at hSw); go_simp; (try with_reducible rfl))
  try simp only [Act.put, List.setIfInBounds_toArray, List.set_cons_zero, List.set_cons_succ]
  refine call_w (i := 18) rfl (by kernel_rfl) (by rfl) (fun K hK => ?_)
  go_simp
  go_at_call 71
  refine (CW.out _ p5 _).mono ?_
  rintro e6 w6 ⟨v6, rfl, own6, b6⟩
  have p6 : Q W w6 := Below.trans p5 b6
  have Own := Lib.hid own6
  clear own6 b6
  refine hK.out _ _ ?_ (fun hHeld => ?_)
  · exact hS.out _ p6
  clear hK K
  try simp only [Act.put, List.setIfInBounds_toArray, List.set_cons_zero, List.set_cons_succ]
  refine take_w (i := 19) (d := some 4) (v := ?_) rfl (by kernel_rfl) (by kernel_rfl) (by kernel_rfl) (fun _ _ _ h => h) rfl (by rfl) ?_ (by assumption) ?_
  rotate_left
  · (intro w hSw; (try dsimp only at hSw); go_simp; (try with_reducible rfl))
  try simp only [Act.put, List.setIfInBounds_toArray, List.set_cons_zero, List.set_cons_succ]
  refine wpAnyH_done (by kernel_rfl) ?_ _
  obtain ⟨A5, c5, rfl, hr5, hA5⟩ := own_open Own.out
  obtain ⟨z00, z01⟩ := (HR8.out.q p6).2 0 _ rfl
  obtain ⟨z10, z11⟩ := (HR8.out.q p6).2 1 _ rfl
  have HF : Hid (RS = [] ++ pairsA (x, e) (e, 0) bs[0]) := by unfold Hid; rw [HW.out, ← HB1.out]; rfl
  obtain ⟨⟨y0, y1⟩, hrd, hqw⟩ := way_close (w := w) (l := [] ++ pairsA (x, e) (e, 0) bs[0]) (.int .i64 1) (.slice A5 ([] ++ pairsA (x, e) (e, 0) bs[0]).length c5) (HR8.out.q p6) (Nat.le_refl _) (HQ0.out.trans p6) hr5 (fun _ ad ha => Nat.ne_of_gt (Nat.lt_of_lt_of_le HR8.out.1 (hA5 ad ha)))
  have Y0 := Lib.hid y0
  have Y1 := Lib.hid y1
  have HRD := Lib.hid hrd
  have HQW := Lib.hid hqw
  have HFA := Lib.hid hA5
  clear y0 y1 hrd hqw hr5 hA5
  generalize [] ++ pairsA (x, e) (e, 0) bs[0] = P at *
  go_wp2_with fail
  have y0 := Y0.out
  have y1 := Y1.out
  exact bodyPost_ret (v := .agg #[.int .i64 1, .slice A5 P.length c5]) (by simp [results, Try.f55, go_sem, y0, y1]) rfl ⟨_, _, by rw [HF.out], by rw [HF.out]; exact HRD.out, HQW.out, fun ad ha => Nat.le_trans HQ0.out.size (HFA.out ad ha)⟩
end Go.Proofs.Ytjehccemilefgaa.St

namespace Go.Proofs.Ytjehccemilefgaa.St
open Go.RowKit Kit Rw
open Go.Proofs.Ytjehccemilefgaa.Sg (Sig Row)
open Go.Proofs.Ytjehccemilefgaa.Hs (Ints Keys BoxT)
open Go.Proofs.Ytjehccemilefgaa.Tm (Tm Store termAt Box4 isPl isPl_iff)
set_option maxRecDepth 100000 in
set_option maxHeartbeats 4000000 in
theorem partOfCon10_any (B : Nat) (R : Option Addr) (cl : Nat) (L : List Sig) (x y : Int) (s : Tm) (A1 : Option Addr) (c1 : Nat) (t : Tm) (A2 : Option Addr) (c2 : Nat) (w : World) (h : PairB w B R cl L x y s A1 c1 t A2 c2) (b : Nat) (ht : TOk L b t) (h6 : t.k = 6) (hl8 : ∀ s ∈ L, s.2.size ≤ 8) (m : Nat) (hm : t.p = (m : Int)) (hms : m < s.xs.length) :
    Calls Try.prog 56 #[.pointer (some ⟨B, 0, none⟩)] w (WayPost (1, pairsA (s.xs[m]?.getD 0, t.xs.headD 0) (t.xs.headD 0, s.xs[m]?.getD 0) (varyN L t.s t.p.toNat)) w) := by
  have q0 := (Q.refl w).alloc (Obj.cells #[.int .i64 0, .slice none 0 0] 33)
  have HB := Lib.hid (h.q q0)
  have HQ0 := Lib.hid q0
  have HR8 := Lib.hid (way_kind w)
  clear h q0
  obtain ⟨e, hxs⟩ : ∃ e, t.xs = [e] := by
    cases ht with
    | leaf _ h => omega
    | con j h h3 => omega
    | two a b h => omega
    | proj j m h e _ _ _ _ hx => exact ⟨e, hx⟩
  have HT := Lib.hid ht
  have H6 := Lib.hid h6
  have H8 := Lib.hid hl8
  have HXS := Lib.hid hxs
  have HL1 : Hid (t.xs.length = 1) := by unfold Hid; rw [hxs]; rfl
  obtain ⟨a, ha⟩ : ∃ a, s.xs[m] = a := ⟨_, rfl⟩
  have HSM : Hid (s.xs[m]?.getD 0 = a) := by unfold Hid; rw [List.getElem?_eq_getElem hms, ha]; rfl
  have HW : Hid (pairsA (s.xs[m]?.getD 0, t.xs.headD 0) (t.xs.headD 0, s.xs[m]?.getD 0) (varyN L t.s t.p.toNat) = pairsA (a, e) (e, a) (varyN L t.s t.p.toNat)) := by unfold Hid; rw [hxs, HSM.out]; rfl
  obtain ⟨RS, hRS⟩ : ∃ r, pairsA (s.xs[m]?.getD 0, t.xs.headD 0) (t.xs.headD 0, s.xs[m]?.getD 0) (varyN L t.s t.p.toNat) = r := ⟨_, rfl⟩
  rw [hRS] at HW ⊢
  clear ht h6 hl8 hRS
  go_enter Try.func56, Try.ntmps56
  go_upto_region 1 with fail
  generalize w.alloc (Obj.cells #[.int .i64 0, .slice none 0 0] 33) = W at *
  have hx10 : W.cell? ⟨B, 10, none⟩ = some (.slice A2 1 c2) := (HB.out.box.2 10 _ rfl).1.trans (by rw [HL1.out])
  have x0 := (HB.out.box.2 0 _ rfl).1
  have x1 := (HB.out.box.2 1 _ rfl).1
  have x7 := (HB.out.box.2 7 _ rfl).1
  have x8 := (HB.out.box.2 8 _ rfl).1
  have x9 := (HB.out.box.2 9 _ rfl).1
  have hBl := HB.out.box.1
  have hS : Hid (∀ U, Q W U → (U.cell? ⟨B, 0, none⟩ = some (.slice R L.length cl) ∧ U.cell? ⟨B, 7, none⟩ = some (.int .i64 t.k) ∧ U.cell? ⟨B, 8, none⟩ = some (.int .i64 t.s) ∧ U.cell? ⟨B, 9, none⟩ = some (.int .i64 t.p) ∧ U.cell? ⟨B, 10, none⟩ = some (.slice A2 1 c2))) := fun U q => ⟨(q.cell (p := ⟨B, 0, none⟩) hBl).trans x0, (q.cell (p := ⟨B, 7, none⟩) hBl).trans x7, (q.cell (p := ⟨B, 8, none⟩) hBl).trans x8, (q.cell (p := ⟨B, 9, none⟩) hBl).trans x9, (q.cell (p := ⟨B, 10, none⟩) hBl).trans hx10⟩
  obtain ⟨ad, rfl, had, e0⟩ := HB.out.i2.at_ (k := 0) (by rw [HL1.out]; omega)
  have e1 : W.cell? ad = some (.int .i64 e) := by
    have := e0
    simp only [HXS.out] at this
    simpa [Addr.add] using this
  obtain ⟨ad1, rfl, had1, f0⟩ := HB.out.i1.at_ (k := m) hms
  have f1 : W.cell? (ad1.add m) = some (.int .i64 a) := by rw [← ha]; exact f0
  have x6 := (HB.out.box.2 6 _ rfl).1
  have g0 : (m : Int) < (s.xs.length : Int) := by omega
  have g1 : (0 : Int) ≤ (m : Int) := Int.natCast_nonneg _
  have x9m : W.cell? ⟨B, 9, none⟩ = some (.int .i64 (m : Int)) := x9.trans (by rw [hm])
  clear f0
  clear e0 hxs
  have hS1 : (W.drew.cell? ⟨B, 6, none⟩ = some (.slice (some ad1) s.xs.length c1) ∧ W.drew.cell? ⟨B, 9, none⟩ = some (.int .i64 (m : Int)) ∧ W.drew.cell? ⟨B, 10, none⟩ = some (.slice (some ad) 1 c2) ∧ W.drew.cell? ad = some (.int .i64 e) ∧ W.drew.cell? (ad1.add m) = some (.int .i64 a)) := ⟨x6, x9m, hx10, e1, f1⟩
  have hSd : Hid (∀ U, Q W.drew U → (U.cell? ⟨B, 0, none⟩ = some (.slice R L.length cl) ∧ U.cell? ⟨B, 7, none⟩ = some (.int .i64 t.k) ∧ U.cell? ⟨B, 8, none⟩ = some (.int .i64 t.s) ∧ U.cell? ⟨B, 9, none⟩ = some (.int .i64 t.p) ∧ U.cell? ⟨B, 10, none⟩ = some (.slice (some ad) 1 c2))) := fun U q => hS.out U ((Q.refl W).drew.trans q)
  have HBd := Lib.hid (HB.out.q (Q.refl W).drew)
  have HQ0d := Lib.hid (HQ0.out.drew)
  have HR8d := Lib.hid (HR8.out.q (Q.refl W).drew)
  clear HB HQ0 HR8 hS x0 x1 x6 x7 x8 x9 x9m hx10 hBl e1 f1 had had1 hm
  refine wp_region_held_drew (S := fun w' => w'.cell? ⟨B, 6, none⟩ = some (.slice (some ad1) s.xs.length c1) ∧ w'.cell? ⟨B, 9, none⟩ = some (.int .i64 (m : Int)) ∧ w'.cell? ⟨B, 10, none⟩ = some (.slice (some ad) 1 c2) ∧ w'.cell? ad = some (.int .i64 e) ∧ w'.cell? (ad1.add m) = some (.int .i64 a)) (by kernel_rfl) ?_ (fun hHeld => ?_)
  · exact hS1
  refine take_w (i := 0) (d := some 6) (v := ?_) rfl (by kernel_rfl) (by kernel_rfl) (by kernel_rfl) (fun _ _ _ h => h) rfl (by rfl) ?_ (by assumption) ?_
  rotate_left
  · (intro w hSw; (try dsimp only at hSw); go_simp; (try with_reducible rfl))
  try simp only [Act.put, List.setIfInBounds_toArray, List.set_cons_zero, List.set_cons_succ]
  refine take_w (i := 1) (d := some 7) (v := ?_) rfl (by kernel_rfl) (by kernel_rfl) (by kernel_rfl) (fun _ _ _ h => h) rfl (by rfl) ?_ (by assumption) ?_
  rotate_left
  · (intro w hSw; (try dsimp only at hSw); go_simp; (try with_reducible rfl))
  try simp only [Act.put, List.setIfInBounds_toArray, List.set_cons_zero, List.set_cons_succ]
  refine take_w (i := 2) (d := some 8) (v := ?_) rfl (by kernel_rfl) (by kernel_rfl) (by kernel_rfl) (fun _ _ _ h => h) rfl (by rfl) ?_ (by assumption) ?_
  rotate_left
  · (intro w hSw; (try dsimp only at hSw); go_simp; (try with_reducible rfl))
  try simp only [Act.put, List.setIfInBounds_toArray, List.set_cons_zero, List.set_cons_succ]
  refine take_w (i := 3) (d := some 9) (v := ?_) rfl (by kernel_rfl) (by kernel_rfl) (by kernel_rfl) (fun _ _ _ h => h) rfl (by rfl) ?_ (by assumption) ?_
  rotate_left
  · (intro w hSw; (try dsimp only at hSw); go_simp; (try with_reducible rfl))
  try simp only [Act.put, List.setIfInBounds_toArray, List.set_cons_zero, List.set_cons_succ]
  refine take_w (i := 4) (d := some 10) (v := ?_) rfl (by kernel_rfl) (by kernel_rfl) (by kernel_rfl) (fun _ _ _ h => h) rfl (by rfl) ?_ (by assumption) ?_
  rotate_left
  · (intro w hSw; (try dsimp only at hSw); go_simp; (try with_reducible rfl))
  try simp only [Act.put, List.setIfInBounds_toArray, List.set_cons_zero, List.set_cons_succ]
  refine take_w (i := 5) (d := some 11) (v := ?_) rfl (by kernel_rfl) (by kernel_rfl) (by kernel_rfl) (fun _ _ _ h => h) rfl (by rfl) ?_ (by assumption) ?_
  rotate_left
  · (intro w hSw; (try dsimp only at hSw); go_simp; (try with_reducible rfl))
  try simp only [Act.put, List.setIfInBounds_toArray, List.set_cons_zero, List.set_cons_succ]
  refine take_w (i := 6) (d := some 12) (v := ?_) rfl (by kernel_rfl) (by kernel_rfl) (by kernel_rfl) (fun _ _ _ h => h) rfl (by rfl) ?_ (by assumption) ?_
  rotate_left
  · (intro w hSw; (try dsimp only at hSw); go_simp; (try with_reducible rfl))
  try simp only [Act.put, List.setIfInBounds_toArray, List.set_cons_zero, List.set_cons_succ]
  refine take_w (i := 7) (d := some 13) (v := ?_) rfl (by kernel_rfl) (by kernel_rfl) (by kernel_rfl) (fun _ _ _ h => h) rfl (by rfl) ?_ (by assumption) ?_
  rotate_left
  · (intro w hSw; (try dsimp only at hSw); go_simp; (try with_reducible rfl))
  try simp only [Act.put, List.setIfInBounds_toArray, List.set_cons_zero, List.set_cons_succ]
  refine take_w (i := 8) (d := some 14) (v := ?_) rfl (by kernel_rfl) (by kernel_rfl) (by kernel_rfl) (fun _ _ _ h => h) rfl (by rfl) ?_ (by assumption) ?_
  rotate_left
  · (intro w hSw; (try dsimp only at hSw); go_simp; (try with_reducible rfl))
  try simp only [Act.put, List.setIfInBounds_toArray, List.set_cons_zero, List.set_cons_succ]
  refine take_w (i := 9) (d := some 15) (v := ?_) rfl (by kernel_rfl) (by kernel_rfl) (by kernel_rfl) (fun _ _ _ h => h) rfl (by rfl) ?_ (by assumption) ?_
  rotate_left
  · (intro w hSw; (try dsimp only at hSw); go_simp; (try with_reducible rfl))
  try simp only [Act.put, List.setIfInBounds_toArray, List.set_cons_zero, List.set_cons_succ]
  refine take_w (i := 10) (d := some 16) (v := ?_) rfl (by kernel_rfl) (by kernel_rfl) (by kernel_rfl) (fun _ _ _ h => h) rfl (by rfl) ?_ (by assumption) ?_
  rotate_left
  · (intro w hSw; (try dsimp only at hSw); go_simp; (try with_reducible rfl))
  try simp only [Act.put, List.setIfInBounds_toArray, List.set_cons_zero, List.set_cons_succ]
  refine take_w (i := 11) (d := some 17) (v := ?_) rfl (by kernel_rfl) (by kernel_rfl) (by kernel_rfl) (fun _ _ _ h => h) rfl (by rfl) ?_ (by assumption) ?_
  rotate_left
  · (intro w hSw; (try dsimp only at hSw); go_simp; (try with_reducible rfl))
  try simp only [Act.put, List.setIfInBounds_toArray, List.set_cons_zero, List.set_cons_succ]
  refine take_w (i := 12) (d := some 18) (v := ?_) rfl (by kernel_rfl) (by kernel_rfl) (by kernel_rfl) (fun _ _ _ h => h) rfl (by rfl) ?_ (by assumption) ?_
  rotate_left
  · (intro w hSw; (try dsimp only at hSw); go_simp; (try with_reducible rfl))
  try simp only [Act.put, List.setIfInBounds_toArray, List.set_cons_zero, List.set_cons_succ]
  refine take_w (i := 13) (d := some 19) (v := ?_) rfl (by kernel_rfl) (by kernel_rfl) (by kernel_rfl) (fun _ _ _ h => h) rfl (by rfl) ?_ (by assumption) ?_
  rotate_left
  · (intro w hSw; (try dsimp only at hSw); go_simp; (try with_reducible rfl))
  try simp only [Act.put, List.setIfInBounds_toArray, List.set_cons_zero, List.set_cons_succ]
  refine take_w (i := 14) (d := some 20) (v := ?_) rfl (by kernel_rfl) (by kernel_rfl) (by kernel_rfl) (fun _ _ _ h => h) rfl (by rfl) ?_ (by assumption) ?_
  rotate_left
  · (intro w hSw; (try dsimp only at hSw); go_simp; (try with_reducible rfl))
  try simp only [Act.put, List.setIfInBounds_toArray, List.set_cons_zero, List.set_cons_succ]
  refine take_w (i := 15) (d := some 21) (v := ?_) rfl (by kernel_rfl) (by kernel_rfl) (by kernel_rfl) (fun _ _ _ h => h) rfl (by rfl) ?_ (by assumption) ?_
  rotate_left
  · (intro w hSw; (try dsimp only at hSw); go_simp; (try with_reducible rfl))
  try simp only [Act.put, List.setIfInBounds_toArray, List.set_cons_zero, List.set_cons_succ]
  refine take_w (i := 16) (d := some 22) (v := ?_) rfl (by kernel_rfl) (by kernel_rfl) (by kernel_rfl) (fun _ _ _ h => h) rfl (by rfl) ?_ (by assumption) ?_
  rotate_left
  · (intro w hSw; (try dsimp only at hSw); go_simp; (try with_reducible rfl))
  try simp only [Act.put, List.setIfInBounds_toArray, List.set_cons_zero, List.set_cons_succ]
  refine take_w (i := 17) (d := some 23) (v := ?_) rfl (by kernel_rfl) (by kernel_rfl) (by kernel_rfl) (fun _ _ _ h => h) rfl (by rfl) ?_ (by assumption) ?_
  rotate_left
  · (intro w hSw; (try dsimp only at hSw); go_simp; (try with_reducible rfl))
  try simp only [Act.put, List.setIfInBounds_toArray, List.set_cons_zero, List.set_cons_succ]
  refine take_w (i := 18) (d := some 24) (v := ?_) rfl (by kernel_rfl) (by kernel_rfl) (by kernel_rfl) (fun _ _ _ h => h) rfl (by rfl) ?_ (by assumption) ?_
  rotate_left
  · (intro w hSw; (try dsimp only at hSw); go_simp; (try with_reducible rfl))
  try simp only [Act.put, List.setIfInBounds_toArray, List.set_cons_zero, List.set_cons_succ]
  refine take_w (i := 19) (d := some 3) (v := ?_) rfl (by kernel_rfl) (by kernel_rfl) (by kernel_rfl) (fun _ _ _ h => h) rfl (by rfl) ?_ (by assumption) ?_
  rotate_left
  · (intro w hSw; (try dsimp only at hSw); go_simp; (try with_reducible rfl))
  try simp only [Act.put, List.setIfInBounds_toArray, List.set_cons_zero, List.set_cons_succ]
  refine take_w (i := 20) (d := some 4) (v := ?_) rfl (by kernel_rfl) (by kernel_rfl) (by kernel_rfl) (fun _ _ _ h => h) rfl (by rfl) ?_ (by assumption) ?_
  rotate_left
  · (intro w hSw; (try dsimp only at hSw); go_simp; (try with_reducible rfl))
  try simp only [Act.put, List.setIfInBounds_toArray, List.set_cons_zero, List.set_cons_succ]
  refine wpAnyH_done (by kernel_rfl) ?_ _
  clear hS1
  go_upto_region 2 with fail
  generalize W.drew = W at *
  have HB := HBd
  have HQ0 := HQ0d
  have HR8 := HR8d
  have hS := hSd
  clear HBd HQ0d HR8d hSd
  have CV := Lib.hid (fun U (q : Q W U) => vary10_any R (some ad) L.length cl 1 c2 b L t U rfl (HB.out.q q).row HT.out H8.out)
  have CW := Lib.hid (fun U (q : Q W U) v => varied10_any W.heap.size [] (.slice none 0 0) v (a, e) (e, a) U (own_nil U _ _ _) q.size (by simp))
  refine wp_region_held_drew (S := fun w' => w'.cell? ⟨B, 0, none⟩ = some (.slice R L.length cl) ∧ w'.cell? ⟨B, 7, none⟩ = some (.int .i64 t.k) ∧ w'.cell? ⟨B, 8, none⟩ = some (.int .i64 t.s) ∧ w'.cell? ⟨B, 9, none⟩ = some (.int .i64 t.p) ∧ w'.cell? ⟨B, 10, none⟩ = some (.slice (some ad) 1 c2)) (by kernel_rfl) ?_ (fun hHeld => ?_)
  · exact hS.out _ (Q.refl W).drew
  refine take_w (i := 0) (d := some 25) (v := ?_) rfl (by kernel_rfl) (by kernel_rfl) (by kernel_rfl) (fun _ _ _ h => h) rfl (by rfl) ?_ (by assumption) ?_
  rotate_left
  · (intro w hSw; (try dsimp only at hSw); go_simp; (try with_reducible rfl))
  try simp only [Act.put, List.setIfInBounds_toArray, List.set_cons_zero, List.set_cons_succ]
  refine take_w (i := 1) (d := some 26) (v := ?_) rfl (by kernel_rfl) (by kernel_rfl) (by kernel_rfl) (fun _ _ _ h => h) rfl (by rfl) ?_ (by assumption) ?_
  rotate_left
  · (intro w hSw; (try dsimp only at hSw); go_simp; (try with_reducible rfl))
  try simp only [Act.put, List.setIfInBounds_toArray, List.set_cons_zero, List.set_cons_succ]
  refine take_w (i := 2) (d := some 27) (v := ?_) rfl (by kernel_rfl) (by kernel_rfl) (by kernel_rfl) (fun _ _ _ h => h) rfl (by rfl) ?_ (by assumption) ?_
  rotate_left
  · (intro w hSw; (try dsimp only at hSw); go_simp; (try with_reducible rfl))
  try simp only [Act.put, List.setIfInBounds_toArray, List.set_cons_zero, List.set_cons_succ]
  refine take_w (i := 3) (d := some 28) (v := ?_) rfl (by kernel_rfl) (by kernel_rfl) (by kernel_rfl) (fun _ _ _ h => h) rfl (by rfl) ?_ (by assumption) ?_
  rotate_left
  · (intro w hSw; (try dsimp only at hSw); go_simp; (try with_reducible rfl))
  try simp only [Act.put, List.setIfInBounds_toArray, List.set_cons_zero, List.set_cons_succ]
  refine take_w (i := 4) (d := some 29) (v := ?_) rfl (by kernel_rfl) (by kernel_rfl) (by kernel_rfl) (fun _ _ _ h => h) rfl (by rfl) ?_ (by assumption) ?_
  rotate_left
  · (intro w hSw; (try dsimp only at hSw); go_simp; (try with_reducible rfl))
  try simp only [Act.put, List.setIfInBounds_toArray, List.set_cons_zero, List.set_cons_succ]
  refine take_w (i := 5) (d := some 30) (v := ?_) rfl (by kernel_rfl) (by kernel_rfl) (by kernel_rfl) (fun _ _ _ h => h) rfl (by rfl) ?_ (by assumption) ?_
  rotate_left
  · (intro w hSw; (try dsimp only at hSw); go_simp; (try with_reducible rfl))
  try simp only [Act.put, List.setIfInBounds_toArray, List.set_cons_zero, List.set_cons_succ]
  refine take_w (i := 6) (d := some 31) (v := ?_) rfl (by kernel_rfl) (by kernel_rfl) (by kernel_rfl) (fun _ _ _ h => h) rfl (by rfl) ?_ (by assumption) ?_
  rotate_left
  · (intro w hSw; (try dsimp only at hSw); go_simp; (try with_reducible rfl))
  try simp only [Act.put, List.setIfInBounds_toArray, List.set_cons_zero, List.set_cons_succ]
  refine take_w (i := 7) (d := some 32) (v := ?_) rfl (by kernel_rfl) (by kernel_rfl) (by kernel_rfl) (fun _ _ _ h => h) rfl (by rfl) ?_ (by assumption) ?_
  rotate_left
  · (intro w hSw; (try dsimp only at hSw); go_simp; (try with_reducible rfl))
  try simp only [Act.put, List.setIfInBounds_toArray, List.set_cons_zero, List.set_cons_succ]
  refine take_w (i := 10) (d := some 35) (v := ?_) rfl (by kernel_rfl) (by kernel_rfl) (by kernel_rfl) (fun _ _ _ h => h) rfl (by rfl) ?_ (by assumption) ?_
  rotate_left
  · (intro w hSw; (try dsimp only at hSw); go_simp; (try with_reducible rfl))
  try simp only [Act.put, List.setIfInBounds_toArray, List.set_cons_zero, List.set_cons_succ]
  refine take_w (i := 11) (d := some 36) (v := ?_) rfl (by kernel_rfl) (by kernel_rfl) (by kernel_rfl) (fun _ _ _ h => h) rfl (by rfl) ?_ (by assumption) ?_
  rotate_left
  · (intro w hSw; (try dsimp only at hSw); go_simp; (try with_reducible rfl))
  try simp only [Act.put, List.setIfInBounds_toArray, List.set_cons_zero, List.set_cons_succ]
  refine take_w (i := 12) (d := some 37) (v := ?_) rfl (by kernel_rfl) (by kernel_rfl) (by kernel_rfl) (fun _ _ _ h => h) rfl (by rfl) ?_ (by assumption) ?_
  rotate_left
  · (intro w hSw; (try dsimp only at hSw); go_simp; (try with_reducible rfl))
  try simp only [Act.put, List.setIfInBounds_toArray, List.set_cons_zero, List.set_cons_succ]
  refine take_w (i := 13) (d := some 38) (v := ?_) rfl (by kernel_rfl) (by kernel_rfl) (by kernel_rfl) (fun _ _ _ h => h) rfl (by rfl) ?_ (by assumption) ?_
  rotate_left
  · (intro w hSw; (try dsimp only at hSw); go_simp; (try with_reducible rfl))
  try simp only [Act.put, List.setIfInBounds_toArray, List.set_cons_zero, List.set_cons_succ]
  refine take_w (i := 14) (d := some 39) (v := ?_) rfl (by kernel_rfl) (by kernel_rfl) (by kernel_rfl) (fun _ _ _ h => h) rfl (by rfl) ?_ (by assumption) ?_
  rotate_left
  · (intro w hSw; (try dsimp only at hSw); go_simp; (try with_reducible rfl))
  try simp only [Act.put, List.setIfInBounds_toArray, List.set_cons_zero, List.set_cons_succ]
  refine take_w (i := 15) (d := some 40) (v := ?_) rfl (by kernel_rfl) (by kernel_rfl) (by kernel_rfl) (fun _ _ _ h => h) rfl (by rfl) ?_ (by assumption) ?_
  rotate_left
  · (intro w hSw; (try dsimp only at hSw); go_simp; (try with_reducible rfl))
  try simp only [Act.put, List.setIfInBounds_toArray, List.set_cons_zero, List.set_cons_succ]
  refine call_w (i := 8) rfl (by kernel_rfl) (by rfl) (fun K hK => ?_)
  go_simp
  go_at_call 33
  refine (CV.out _ (Q.refl W).drew).mono ?_
  rintro e5 w5 ⟨bs, rfl, hvb, hv6, q5⟩
  have p5 := (Q.refl W).drew.trans q5
  obtain ⟨hb0, hb1⟩ := hv6 H6.out
  have hb2 : (0 : Int) < (bs.size : Int) := by omega
  have HB1 := Lib.hid (hb1 hb0)
  clear hb1 hvb hv6
  refine hK.out _ _ ?_ (fun hHeld => ?_)
  · exact hS.out _ p5
  clear hK K
  try simp only [Act.put, List.setIfInBounds_toArray, List.set_cons_zero, List.set_cons_succ]
  refine take_w (i := 9) (d := some 34) (v := ?_) rfl (by kernel_rfl) (by kernel_rfl) (by kernel_rfl) (fun _ _ _ h => h) rfl (by rfl) ?_ (by assumption) ?_
  rotate_left
  · (intro w hSw; (try dsimp only at hSw); go_simp; (try with_reducible rfl))
  try simp only [Act.put, List.setIfInBounds_toArray, List.set_cons_zero, List.set_cons_succ]
  refine call_w (i := 16) rfl (by kernel_rfl) (by rfl) (fun K hK => ?_)
  go_simp
  go_at_call 71
  refine (CW.out _ p5 _).mono ?_
  rintro e6 w6 ⟨v6, rfl, own6, b6⟩
  have p6 : Q W w6 := Below.trans p5 b6
  have Own := Lib.hid own6
  clear own6 b6
  refine hK.out _ _ ?_ (fun hHeld => ?_)
  · exact hS.out _ p6
  clear hK K
  try simp only [Act.put, List.setIfInBounds_toArray, List.set_cons_zero, List.set_cons_succ]
  refine take_w (i := 17) (d := some 5) (v := ?_) rfl (by kernel_rfl) (by kernel_rfl) (by kernel_rfl) (fun _ _ _ h => h) rfl (by rfl) ?_ (by assumption) ?_
  rotate_left
  · (intro w hSw; (try dsimp only at hSw); go_simp; (try with_reducible rfl))
  try simp only [Act.put, List.setIfInBounds_toArray, List.set_cons_zero, List.set_cons_succ]
  refine wpAnyH_done (by kernel_rfl) ?_ _
  obtain ⟨A5, c5, rfl, hr5, hA5⟩ := own_open Own.out
  obtain ⟨z00, z01⟩ := (HR8.out.q p6).2 0 _ rfl
  obtain ⟨z10, z11⟩ := (HR8.out.q p6).2 1 _ rfl
  have HF : Hid (RS = [] ++ pairsA (a, e) (e, a) bs[0]) := by unfold Hid; rw [HW.out, ← HB1.out]; rfl
  obtain ⟨⟨y0, y1⟩, hrd, hqw⟩ := way_close (w := w) (l := [] ++ pairsA (a, e) (e, a) bs[0]) (.int .i64 1) (.slice A5 ([] ++ pairsA (a, e) (e, a) bs[0]).length c5) (HR8.out.q p6) (Nat.le_refl _) (HQ0.out.trans p6) hr5 (fun _ ad ha => Nat.ne_of_gt (Nat.lt_of_lt_of_le HR8.out.1 (hA5 ad ha)))
  have Y0 := Lib.hid y0
  have Y1 := Lib.hid y1
  have HRD := Lib.hid hrd
  have HQW := Lib.hid hqw
  have HFA := Lib.hid hA5
  clear y0 y1 hrd hqw hr5 hA5
  generalize [] ++ pairsA (a, e) (e, a) bs[0] = P at *
  go_wp2_with fail
  have y0 := Y0.out
  have y1 := Y1.out
  exact bodyPost_ret (v := .agg #[.int .i64 1, .slice A5 P.length c5]) (by simp [results, Try.f56, go_sem, y0, y1]) rfl ⟨_, _, by rw [HF.out], by rw [HF.out]; exact HRD.out, HQW.out, fun ad ha => Nat.le_trans HQ0.out.size (HFA.out ad ha)⟩
end Go.Proofs.Ytjehccemilefgaa.St
