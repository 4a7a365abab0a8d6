/-
  What the proofs lean on, part 16 of 17.
-/
import Derived.Test.YtjmopbimleoidaaGreatPf
import Derived.Test.YtjmopbimleoidaaGreatPl
import Derived.Test.YtjmopbimleoidaaGreatPm
import Derived.Test.YtjmopbimleoidaaGreatPo
namespace Go.Proofs.YtjmopbimleoidaaGreat.Ig
open Go.RowKit Kit Tr Uf
open Go.Proofs.YtjmopbimleoidaaGreat.Hs (Keys Ints BoxT layI)
open Go.Proofs.YtjmopbimleoidaaGreat.Tm (Tm termAt of_any Box4)
theorem grown_of_none {w w' : World} (h : w.grownBy w' none) (b : Nat) : w.grownBy w' (some b) := ⟨h.os, h.tape, h.output, h.size, fun i hi _ => h.block i hi (fun e => by cases e)⟩
theorem frz_block {w w' : World} {b i : Nat} (h : w'.heap[b]? = w.heap[b]?) : w'.frozen? ⟨b, i, none⟩ = w.frozen? ⟨b, i, none⟩ := by simp only [World.frozen?, h]
/-- what the example's row is laid with -/
def LayEx (gp e : Nat) (w w' : World) : Prop := ∃ A c D cd w2 w3 G, Q w w2 ∧ gp ≤ G ∧ G < e ∧ w2.grownBy w3 (some G) ∧ w3.grownBy w' (some gp) ∧ w'.cell? ⟨gp, 0, none⟩ = some (.slice A 0 c) ∧ w'.cell? ⟨gp, 1, none⟩ = some (.slice (some ⟨D, 0, none⟩) 1 cd) ∧ 1 ≤ cd ∧ OwnC w' D (cellsI [2]) ∧ gp < D ∧ (D < e ∨ w.heap.size ≤ D)
set_option maxRecDepth 100000 in
set_option maxHeartbeats 4000000 in
theorem lay_ex (gp e : Nat) (w : World) (h : Tab w gp e [[], []]) : Calls Tryz.prog 112 #[.pointer (some ⟨gp, 1, none⟩), .int .i64 2] w fun er w' => er = .returned (.bool true) ∧ LayEx gp e w w' := by
  obtain ⟨A0, c0', x0, f0, -⟩ := h.cell (y := 0) (by simp)
  obtain ⟨A1, c1', x1, f1, hr⟩ := h.cell (y := 1) (by simp)
  simp only [List.getElem_cons_zero, List.getElem_cons_succ, List.length_nil] at x0 x1 hr
  have HX0 := Lib.hid x0
  have HX1 := Lib.hid x1
  have HF1 := Lib.hid f1
  have HT := Lib.hid h
  have HR := Lib.hid hr
  clear x0 f0 f1 h hr
  go_enter Tryz.func112, Tryz.ntmps112
  go_upto_region 2 with (go_at_call 144; refine (search_none A1 c1' 2 _).mono ?_; rintro er w1 ⟨rfl, q1⟩; have HQ1 := Lib.hid q1; clear q1)
  have y1 := (HQ1.out.cell (p := ⟨gp, 1, none⟩) (Nat.lt_of_lt_of_le HT.out.lt HT.out.le)).trans x1
  have qa := HQ1.out.alloc (Obj.cells #[.int .i64 2] 3)
  have HQa := Lib.hid qa
  have HD : Hid (Tr.Rds (w1.alloc (Obj.cells #[.int .i64 2] 3)) (w1.alloc (Obj.cells #[.int .i64 2] 3)).heap.size (some ⟨w1.heap.size, 0, none⟩) (cellsI [2])) := Lib.hid (OwnC.rds (own_new12 w1 [.int .i64 2] 3))
  have HRq := Lib.hid (HR.out.q qa)
  have HTq := Lib.hid (HT.out.q qa)
  clear qa x1
  have CI : Hid (Calls Tryz.prog 145 #[.slice A1 0 c1', .int .i64 0, .slice (some ⟨w1.heap.size, 0, none⟩) 1 1] (w1.alloc (Obj.cells #[.int .i64 2] 3)) fun e w' => ∃ v, e = .returned v ∧ w'.ownsRow (gp + 1) 3 1 v 1 (cellsI [2]) ∧ (w1.alloc (Obj.cells #[.int .i64 2] 3)).grownBy w' (Value.slice A1 0 c1').ownBlock ∧ (v.ownBlock = (Value.slice A1 0 c1').ownBlock ∨ v.ownBlock = some (w1.alloc (Obj.cells #[.int .i64 2] 3)).heap.size)) := insert_none (gp + 1) A1 _ c1' 1 2 _ HRq.out.1 (by have := HTq.out.lt; have := HTq.out.le; omega) HD.out
  go_wp2_with fail
  generalize w1.alloc (Obj.cells #[.int .i64 2] 3) = W2 at *
  refine CI.out.mono ?_
  rintro er w3 ⟨v3, rfl, own3, gr3, at3⟩
  have hne3 : ∀ b, (Value.slice A1 0 c1').ownBlock = some b → gp < b := fun b hb => (HRq.out.1.lt b hb).1
  have hle := Nat.lt_of_lt_of_le HT.out.lt HT.out.le
  have hb3 : w3.heap[gp]? = W2.heap[gp]? := gr3.block gp (Nat.lt_of_lt_of_le HTq.out.lt HTq.out.le) (fun e => Nat.lt_irrefl _ (hne3 gp e.symm))
  have z1 : w3.cell? ⟨gp, 1, none⟩ = some (.slice A1 0 c1') := (World.cell?_of_block (a := ⟨gp, 1, none⟩) hb3).trans ((HQa.out.cell (p := ⟨gp, 1, none⟩) hle).trans HX1.out)
  have zf : w3.frozen? ⟨gp, 1, none⟩ = false := (frz_block hb3).trans ((frz_block (HQa.out.block gp hle)).trans HF1.out)
  have z0 : w3.cell? ⟨gp, 0, none⟩ = some (.slice A0 0 c0') := (World.cell?_of_block (a := ⟨gp, 0, none⟩) hb3).trans ((HQa.out.cell (p := ⟨gp, 0, none⟩) hle).trans HX0.out)
  obtain ⟨D, cd, rfl, hD1, hD2, hcd⟩ := row_some own3 (by omega)
  have HO3 := Lib.hid own3
  have HG3 := Lib.hid gr3
  have HA3 := Lib.hid at3
  have HZ0 := Lib.hid z0
  have HD1 := Lib.hid hD1
  have Hcd := Lib.hid hcd
  clear own3 gr3 at3 hne3 hb3 z0 hD1 hD2 hcd hle y1
  go_wp2_with fail
  go_ret
  refine ⟨rfl, A0, c0', D, cd, W2, w3, ?_⟩
  have hD := HD1.out
  have hs := setCell_grown w3 gp 1 (.slice (some ⟨D, 0, none⟩) 1 cd)
  have hw2 := HQa.out.size
  have hown : OwnC (w3.setCell ⟨gp, 1, none⟩ (.slice (some ⟨D, 0, none⟩) 1 cd)) D (cellsI [2]) := (OwnC.of_row HO3.out).grown hs (by intro e; injection e with e; omega)
  have hc0 : (w3.setCell ⟨gp, 1, none⟩ (.slice (some ⟨D, 0, none⟩) 1 cd)).cell? ⟨gp, 0, none⟩ = some (.slice A0 0 c0') := Tr.setCell_ne (by omega) HZ0.out
  have hc1 : (w3.setCell ⟨gp, 1, none⟩ (.slice (some ⟨D, 0, none⟩) 1 cd)).cell? ⟨gp, 1, none⟩ = some (.slice (some ⟨D, 0, none⟩) 1 cd) := Tr.setCell_eq z1
  have hlt := HT.out.lt
  cases A1 with
  | none => exact ⟨gp, HQa.out, Nat.le_refl _, hlt, grown_of_none HG3.out gp, hs, hc0, hc1, Hcd.out, hown, by omega, .inr (by
      rcases HA3.out with h | h
      · simp [Value.ownBlock] at h
      · have : D = W2.heap.size := by simpa [Value.ownBlock] using h
        omega)⟩
  | some ad =>
    have hGe := HRq.out.2 ad.block rfl
    have hGg := (HRq.out.1.lt ad.block rfl).1
    exact ⟨ad.block, HQa.out, by omega, hGe, HG3.out, hs, hc0, hc1, Hcd.out, hown, by omega, by
      rcases HA3.out with h | h
      · have : D = ad.block := by simpa [Value.ownBlock] using h
        exact .inl (by omega)
      · have : D = W2.heap.size := by simpa [Value.ownBlock] using h
        exact .inr (by omega)⟩
end Go.Proofs.YtjmopbimleoidaaGreat.Ig

namespace Go.Proofs.YtjmopbimleoidaaGreat.Ig
open Go.RowKit Kit Tr Uf
open Go.Proofs.YtjmopbimleoidaaGreat.Hs (Keys Ints BoxT layI KeysP IntsP)
open Go.Proofs.YtjmopbimleoidaaGreat.Tm (Tm termAt of_any Box4)
open Go.Proofs.YtjmopbimleoidaaGreat.St (cellsQ cellsQ_append cellsQ_len cellsQ_one pairInfo PI)
structure AddB (w W : World) (R : List Int) (c : Cells) (P T : List (List Int)) (a1 a2 f1 f2 f3 f4 f5 f6 : Value) (g0 g1 g2 g3 gp gs O Br : Nat) : Prop where
  ba : BoxT W w.heap.size a1 a2
  bg : Box6 W (w.heap.size + 1) f1 f2 f3 f4 f5 f6
  res : BoxW W Br (.slice none 0 0) (.slice none 0 0) (.slice none 0 0) (.slice none 0 0) (.slice none 0 0) (.slice none 0 0)
  out : BoxW W O (.slice (some ⟨g0, 0, none⟩) R.length R.length) (.slice (some ⟨g1, 0, none⟩) c.V.length c.V.length) (.slice (some ⟨g2, 0, none⟩) c.N.length c.N.length) (.slice (some ⟨g3, 0, none⟩) c.M.length c.M.length) (.slice (some ⟨gp, 0, none⟩) P.length P.length) (.slice (some ⟨gs, 0, none⟩) T.length T.length)
  q : Q w W
section
variable {w W W' : World} {R : List Int} {c : Cells} {P T : List (List Int)} {a1 a2 f1 f2 f3 f4 f5 f6 : Value} {g0 g1 g2 g3 gp gs O Br : Nat}
theorem AddB.next (h : AddB w W R c P T a1 a2 f1 f2 f3 f4 f5 f6 g0 g1 g2 g3 gp gs O Br) (q : Q W W') : AddB w W' R c P T a1 a2 f1 f2 f3 f4 f5 f6 g0 g1 g2 g3 gp gs O Br :=
  ⟨h.ba.q q, h.bg.q q, h.res.q q, h.out.q q, h.q.trans q⟩
theorem AddB.far {G : Nat} (h : AddB w W R c P T a1 a2 f1 f2 f3 f4 f5 f6 g0 g1 g2 g3 gp gs O Br) (gr : W.grownBy W' (some G)) (hB : w.heap.size + 3 ≤ G) (hO : G ≠ O) (hr : Br = w.heap.size + 2) : AddB w W' R c P T a1 a2 f1 f2 f3 f4 f5 f6 g0 g1 g2 g3 gp gs O Br :=
  ⟨boxT_far h.ba gr (by omega), h.bg.grown gr (by omega), h.res.grown gr (by omega), h.out.grown gr (by omega), grown_q gr h.q (by omega)⟩
end
/-- behind the row that was laid -/
structure AddL (w W : World) (R : List Int) (c : Cells) (P T : List (List Int)) (g0 g1 g2 g3 gp gs es O : Nat) : Prop where
  r : OwnC W g0 (cellsI R)
  v : OwnC W g1 (cellsI c.V)
  n : OwnC W g2 (cellsP c.N)
  m : OwnC W g3 (cellsI c.M)
  t : Tab W gs es T
  p : KeysP W (fun b => w.heap.size + 3 ≤ b) (some ⟨gp, 0, none⟩) [[], [2]]
  o : w.heap.size + 3 ≤ g0 ∧ g0 < g1 ∧ g1 < g2 ∧ g2 < g3 ∧ g3 < gp ∧ gp < gs ∧ es ≤ O
theorem addL_of {w W0 w4 w5 : World} {R : List Int} {c : Cells} {P T : List (List Int)} {g0 g1 g2 g3 gp ep gs es O : Nat} (h : GOut W0 w4 R c P T g0 g1 g2 g3 gp ep gs es) (_hP : P = [[], []]) (hz : W0.heap.size = w.heap.size + 3) (he : es ≤ O) (l : LayEx gp ep w4 w5) : AddL w w5 R c P T g0 g1 g2 g3 gp gs es O := by
  obtain ⟨A, cc, D, cd, w2, w3, G, q2, hG1, hG2, gr3, gr5, c0, c1, hcd, hown, hgD, hDe⟩ := l
  obtain ⟨r, v, n, m, p, t, o0, o1, o2, o3, o4, o5, q⟩ := h.next q2
  have hp := p.lt
  have own2 : ∀ {g : Nat} {cs : List Value}, OwnC w2 g cs → g < gp → OwnC w5 g cs := fun h hg => (h.grown gr3 (ne_some (by omega))).grown gr5 (ne_some (by omega))
  refine ⟨own2 r (by omega), own2 v (by omega), own2 n (by omega), own2 m (by omega), (t.far gr3 (.inl (by omega))).far gr5 (.inl (by omega)), fun _ => ⟨_, rfl, by show w.heap.size + 3 ≤ gp; omega, ?_, fun i k hi => ?_⟩, by omega⟩
  · have := p.le
    have := gr3.size
    have := gr5.size
    show gp < w5.heap.size
    omega
  · match i, hi with
    | 0, hi =>
      obtain rfl : [] = k := by simpa using hi
      exact ⟨A, cc, Nat.zero_le _, by rw [Tr.add_zero_head]; exact c0, fun h => absurd h (by simp)⟩
    | 1, hi =>
      obtain rfl : [2] = k := by simpa using hi
      exact ⟨some ⟨D, 0, none⟩, cd, hcd, by rw [Tr.add_zero_head]; exact c1, own_ints12 (l := [2]) hown (by show w.heap.size + 3 ≤ D; omega)⟩
    | i + 2, hi => simp at hi
theorem AddL.next {w W W' : World} {R : List Int} {c : Cells} {P T : List (List Int)} {g0 g1 g2 g3 gp gs es O : Nat} (h : AddL w W R c P T g0 g1 g2 g3 gp gs es O) (q : Q W W') : AddL w W' R c P T g0 g1 g2 g3 gp gs es O :=
  ⟨h.r.q q, h.v.q q, h.n.q q, h.m.q q, h.t.q q, h.p.q q, h.o⟩
theorem AddL.grp {w W : World} {R : List Int} {c : Cells} {P T : List (List Int)} {g0 g1 g2 g3 gp gs es O : Nat} (h : AddL w W R c P T g0 g1 g2 g3 gp gs es O) (hP : P.length = 2) : GRP W (fun b => w.heap.size + 3 ≤ b) R c [[], [2]] T (some ⟨g0, 0, none⟩) (some ⟨g1, 0, none⟩) (some ⟨g2, 0, none⟩) (some ⟨g3, 0, none⟩) (some ⟨gp, 0, none⟩) (some ⟨gs, 0, none⟩) R.length c.V.length c.N.length c.M.length P.length T.length := by
  have ho := h.o
  have hk : ∀ b, w.heap.size + 3 ≤ b → (fun b => w.heap.size + 3 ≤ b) b := fun b h => h
  exact ⟨.of_own h.r (hk _ (by omega)), .of_own h.v (hk _ (by omega)), .of_own h.n (hk _ (by omega)), .of_own h.m (hk _ (by omega)), h.p, h.t.p (fun b h1 _ => hk b (by omega)), Nat.le_refl _, Nat.le_refl _, Nat.le_refl _, Nat.le_refl _, by rw [hP]; exact Nat.le_refl _, Nat.le_refl _⟩

/-- the example's graph: two variables, each alone -/
def c2 : Cells := ⟨[0, 1], [(-1, 0), (-1, 0)], []⟩
theorem cl2 : Cl [] c2.V := cl_of (by decide)
theorem okS_two : OkS twoK := by
  refine ⟨Hs.rdF_dist rfl, by decide, by decide, fun id t ht h2 => ?_⟩
  cases hp : Tm.isPl id twoK.length with
  | false => rw [Tm.termAt_out hp] at ht; cases ht
  | true =>
    obtain ⟨h0, h4⟩ := (Tm.isPl_iff _ _).1 hp
    have h5 : (twoK.length : Int) = 4 := rfl
    have : id = 0 ∨ id = 1 ∨ id = 2 ∨ id = 3 := by omega
    rcases this with rfl | rfl | rfl | rfl
    · have e : termAt twoK 0 = some (Tm.ofKey [0, 0, 0]) := rfl
      rw [e] at ht; injection ht with ht; subst ht; decide
    · have e : termAt twoK 1 = some (Tm.ofKey [1, 0, 0]) := rfl
      rw [e] at ht; injection ht with ht; subst ht; decide
    · have e : termAt twoK 2 = some (Tm.ofKey [2, 0, 0]) := rfl
      rw [e] at ht; injection ht with ht; subst ht; decide
    · have e : termAt twoK 3 = some (Tm.ofKey [2, 1, 0]) := rfl
      rw [e] at ht; injection ht with ht; subst ht; decide
theorem lay_two : (layI twoK).length = 8 := by rw [Hs.layI_length]; exact size_two
set_option maxRecDepth 100000 in
set_option maxHeartbeats 8000000 in
theorem addPre_ex (R : List Int) (c : Cells) (P T : List (List Int)) (A S F Av D E Pa Ta : Option Addr) (cr k1 k2 k3 kp kt : Nat) (w : World) (hR0 : R = []) (hc0 : c = c2) (hP0 : P = [[], []]) (hT0 : T = [[], []]) (hk : Keys w w.heap.size A twoK) (hS : Ints w w.heap.size S (layI twoK))
    (hG : GRP w (fun _ => True) R c P T F Av D E Pa Ta cr k1 k2 k3 kp kt) :
    Calls Tryz.prog 69 #[.agg #[.slice A 4 4, .slice S 8 8], .agg #[.slice F R.length cr, .slice Av c.V.length k1, .slice D c.N.length k2, .slice E c.M.length k3, .slice Pa P.length kp, .slice Ta T.length kt], .int .i64 2, .int .i64 1] w fun e w' => ∃ F A D E Pa Ta cr k1 k2 k3 kp kt Al cl, e = .returned (.tuple #[gvP R c [[], [2]] T F A D E Pa Ta cr k1 k2 k3 kp kt, .slice Al 0 cl, .bool true]) ∧ GRP w' (fun b => w.heap.size ≤ b) R c [[], [2]] T F A D E Pa Ta cr k1 k2 k3 kp kt ∧ Q w w' := by
  have q0 := (((Q.refl w).alloc (Obj.cells #[.slice A 4 4, .slice S 8 8] 26)).alloc (Obj.cells #[.slice F R.length cr, .slice Av c.V.length k1, .slice D c.N.length k2, .slice E c.M.length k3, .slice Pa P.length kp, .slice Ta T.length kt] 31)).alloc (Obj.cells #[.slice none 0 0, .slice none 0 0, .slice none 0 0, .slice none 0 0, .slice none 0 0, .slice none 0 0] 31)
  have HBa := Lib.hid ((BoxT.new w (.slice A 4 4) (.slice S 8 8) 26).q (((Q.refl _).alloc (Obj.cells #[.slice F R.length cr, .slice Av c.V.length k1, .slice D c.N.length k2, .slice E c.M.length k3, .slice Pa P.length kp, .slice Ta T.length kt] 31)).alloc (Obj.cells #[.slice none 0 0, .slice none 0 0, .slice none 0 0, .slice none 0 0, .slice none 0 0, .slice none 0 0] 31)))
  have X := (Box6.new (w.alloc (Obj.cells #[.slice A 4 4, .slice S 8 8] 26)) (.slice F R.length cr) (.slice Av c.V.length k1) (.slice D c.N.length k2) (.slice E c.M.length k3) (.slice Pa P.length kp) (.slice Ta T.length kt) 31).q ((Q.refl _).alloc (Obj.cells #[.slice none 0 0, .slice none 0 0, .slice none 0 0, .slice none 0 0, .slice none 0 0, .slice none 0 0] 31))
  rw [World.size_alloc] at X
  have HBg := Lib.hid X
  have X2 := BoxW.new ((w.alloc (Obj.cells #[.slice A 4 4, .slice S 8 8] 26)).alloc (Obj.cells #[.slice F R.length cr, .slice Av c.V.length k1, .slice D c.N.length k2, .slice E c.M.length k3, .slice Pa P.length kp, .slice Ta T.length kt] 31)) (.slice none 0 0) (.slice none 0 0) (.slice none 0 0) (.slice none 0 0) (.slice none 0 0) (.slice none 0 0) 31
  rw [World.size_alloc, World.size_alloc] at X2
  have HX := Lib.hid X2
  have HZ : Hid ((((w.alloc (Obj.cells #[.slice A 4 4, .slice S 8 8] 26)).alloc (Obj.cells #[.slice F R.length cr, .slice Av c.V.length k1, .slice D c.N.length k2, .slice E c.M.length k3, .slice Pa P.length kp, .slice Ta T.length kt] 31)).alloc (Obj.cells #[.slice none 0 0, .slice none 0 0, .slice none 0 0, .slice none 0 0, .slice none 0 0, .slice none 0 0] 31)).heap.size = w.heap.size + 3) := by unfold Hid; simp
  have HG := Lib.hid (hG.q q0)
  have Hk := Lib.hid ((hk.q (Nat.le_refl _) q0).more q0.size)
  have HQ0 := Lib.hid q0
  have HT00 := Lib.hid hG.t.keys
  have Hk0 : Hid (Keys w w.heap.size A twoK ∧ Ints w w.heap.size S (layI twoK)) := Lib.hid ⟨hk, hS⟩
  have HGd := Lib.hid hG
  have HR0 := Lib.hid hR0
  have HC0 := Lib.hid hc0
  have HP0 := Lib.hid hP0
  have HT0 := Lib.hid hT0
  obtain ⟨Br, hBr⟩ : ∃ Br, Br = w.heap.size + 1 + 1 := ⟨_, rfl⟩
  rw [← hBr] at HX
  have HBr : Hid (Br = w.heap.size + 2) := hBr
  have HPl : Hid (P.length = 2 ∧ T.length = 2 ∧ c.V.length = 2 ∧ c.N.length = 2 ∧ c.M.length = 0 ∧ R.length = 0) := by unfold Hid; rw [hR0, hc0, hP0, hT0]; exact ⟨rfl, rfl, rfl, rfl, rfl, rfl⟩
  have HSm : Hid ((∀ k ∈ P, k.length ≤ 1000000) ∧ (∀ k ∈ T, k.length ≤ 1000000)) := by unfold Hid; rw [hP0, hT0]; decide
  clear X X2 q0 hG hk hS hR0 hc0 hP0 hT0
  go_enter Tryz.func69, Tryz.ntmps69
  go_upto_region 1 with fail
  rw [← hBr]
  clear hBr
  generalize ((w.alloc (Obj.cells #[.slice A 4 4, .slice S 8 8] 26)).alloc (Obj.cells #[.slice F R.length cr, .slice Av c.V.length k1, .slice D c.N.length k2, .slice E c.M.length k3, .slice Pa P.length kp, .slice Ta T.length kt] 31)).alloc (Obj.cells #[.slice none 0 0, .slice none 0 0, .slice none 0 0, .slice none 0 0, .slice none 0 0, .slice none 0 0] 31) = W0 at *
  have b0 := HBg.out.c0
  have b1 := HBg.out.c1
  have b2 := HBg.out.c2
  have b3 := HBg.out.c3
  have b4 := HBg.out.c4
  have b5 := HBg.out.c5
  have CC := Lib.hid (copyOf12 R c P T F Av D E Pa Ta _ cr _ k1 _ k2 _ k3 _ kp _ kt W0 rfl rfl rfl rfl rfl rfl HG.out.r.rds HG.out.rd HG.out.p.keys HG.out.t.keys (by have := HPl.out; omega) ⟨by have := HPl.out; omega, by have := HPl.out; omega, by have := HPl.out; omega⟩ (by have := HPl.out; omega) (by have := HPl.out; omega) HSm.out.1 HSm.out.2)
  go_upto_region 2 with (go_at_call 37; refine CC.out.mono ?_; rintro e w1 ⟨g0, g1, g2, g3, gp, ep, gs, es, rfl, hG⟩; have HGo := Lib.hid hG; unfold gVal; clear hG)
  have q2 := (Q.refl w1).alloc (Obj.cells #[(.slice (some ⟨g0, 0, none⟩) R.length R.length), (.slice (some ⟨g1, 0, none⟩) c.V.length c.V.length), (.slice (some ⟨g2, 0, none⟩) c.N.length c.N.length), (.slice (some ⟨g3, 0, none⟩) c.M.length c.M.length), (.slice (some ⟨gp, 0, none⟩) P.length P.length), (.slice (some ⟨gs, 0, none⟩) T.length T.length)] 31)
  have HA2 : Hid (AddB w (w1.alloc (Obj.cells #[(.slice (some ⟨g0, 0, none⟩) R.length R.length), (.slice (some ⟨g1, 0, none⟩) c.V.length c.V.length), (.slice (some ⟨g2, 0, none⟩) c.N.length c.N.length), (.slice (some ⟨g3, 0, none⟩) c.M.length c.M.length), (.slice (some ⟨gp, 0, none⟩) P.length P.length), (.slice (some ⟨gs, 0, none⟩) T.length T.length)] 31)) R c P T (.slice A 4 4) (.slice S 8 8) (.slice F R.length cr) (.slice Av c.V.length k1) (.slice D c.N.length k2) (.slice E c.M.length k3) (.slice Pa P.length kp) (.slice Ta T.length kt) g0 g1 g2 g3 gp gs w1.heap.size Br) :=
    Lib.hid ⟨(HBa.out.q HGo.out.q).q q2, (HBg.out.q HGo.out.q).q q2, (HX.out.q HGo.out.q).q q2, BoxW.new w1 (.slice (some ⟨g0, 0, none⟩) R.length R.length) (.slice (some ⟨g1, 0, none⟩) c.V.length c.V.length) (.slice (some ⟨g2, 0, none⟩) c.N.length c.N.length) (.slice (some ⟨g3, 0, none⟩) c.M.length c.M.length) (.slice (some ⟨gp, 0, none⟩) P.length P.length) (.slice (some ⟨gs, 0, none⟩) T.length T.length) 31, (HQ0.out.trans HGo.out.q).trans q2⟩
  have HG2 := Lib.hid (HGo.out.next q2)
  have HEs : Hid (es ≤ w1.heap.size) := HGo.out.t.le
  clear b0 b1 b2 b3 b4 b5 CC q2 HGo HBa HBg HX
  generalize w1.alloc (Obj.cells #[(.slice (some ⟨g0, 0, none⟩) R.length R.length), (.slice (some ⟨g1, 0, none⟩) c.V.length c.V.length), (.slice (some ⟨g2, 0, none⟩) c.N.length c.N.length), (.slice (some ⟨g3, 0, none⟩) c.M.length c.M.length), (.slice (some ⟨gp, 0, none⟩) P.length P.length), (.slice (some ⟨gs, 0, none⟩) T.length T.length)] 31) = W1 at *
  generalize w1.heap.size = O at *
  have a0 := HA2.out.ba.c0
  have a1 := HA2.out.ba.c1
  have b0 := HA2.out.bg.c0
  have b1 := HA2.out.bg.c1
  have b2 := HA2.out.bg.c2
  have b3 := HA2.out.bg.c3
  have b4 := HA2.out.bg.c4
  have b5 := HA2.out.bg.c5
  have jP : (1 : Int) < (P.length : Int) := by have := HPl.out.1; omega
  go_wp2_with (go_at_call 72; refine (inPre_any _ _ _ _ _ _ _ _ _).mono ?_; rintro e w2 ⟨B, rfl, hb1, hb2, q2⟩; have HB1 := Lib.hid hb1; have HB2 := Lib.hid hb2; have HA3 := Lib.hid (HA2.out.next q2); have HG3 := Lib.hid (HG2.out.next q2); clear hb1 hb2 q2 a0 a1 b0 b1 b2 b3 b4 b5; unfold mayFn)
  have HQw : Hid (Q w w2) := Lib.hid HA3.out.q
  have HQ02 : Hid (Q W0 w2) := Lib.hid HG3.out.q
  have hm1 : P.length = c.V.length := by have := HPl.out; omega
  have hm2 : T.length = c.V.length := by have := HPl.out; omega
  have ht : termAt twoK 2 = some ⟨2, 0, 0, []⟩ := rfl
  have hl : lessB R 0 1 = true := by rw [HR0.out]; decide
  have CM := Lib.hid (mayVar_any B A S F Av Pa Ta 4 4 8 8 R.length cr c.V.length k1 P.length kp T.length kt (.slice D c.N.length k2) (.slice E c.M.length k3) R twoK 1 2 ⟨2, 0, 0, []⟩ w2 rfl ((Hk.out.q (Nat.le_refl _) HQ02.out).more HQ02.out.size) (by decide) rfl (HG.out.r.rds.q HQ02.out) hm1 hm2 HB1.out HB2.out ht rfl ⟨by decide, by have := HPl.out; show (0 : Int) < _; omega⟩ hl)
  clear hm1 hm2 ht hl
  refine CM.out.mono ?_
  rintro e w3 ⟨rfl, q3⟩
  have HA4 := Lib.hid (HA3.out.next q3)
  have HG4 := Lib.hid (HG3.out.next q3)
  have HQ03 : Hid (Q W0 w3) := Lib.hid HG4.out.q
  clear q3
  have o4 := HA4.out.out.c.c4
  have hTab : Tab w3 gp ep [[], []] := by rw [← HP0.out]; exact HG4.out.p
  have CY := Lib.hid (lay_ex gp ep w3 hTab)
  clear hTab
  go_upto_region 4 with (go_at_call 112; refine CY.out.mono ?_; rintro e w4 ⟨rfl, hl⟩; have HLy := Lib.hid hl; clear hl)
  clear o4 CY CM
  have HL5 := Lib.hid (addL_of HG4.out HP0.out HZ.out HEs.out HLy.out)
  have HA5 : Hid (AddB w w4 R c P T (.slice A 4 4) (.slice S 8 8) (.slice F R.length cr) (.slice Av c.V.length k1) (.slice D c.N.length k2) (.slice E c.M.length k3) (.slice Pa P.length kp) (.slice Ta T.length kt) g0 g1 g2 g3 gp gs O Br) := by
    obtain ⟨A', cc, D', cd, u2, u3, G, qu, hG1, hG2, gr3, gr5, _⟩ := HLy.out
    have h1 := HG4.out.o0
    have h2 := HG4.out.o1
    have h3 := HG4.out.o2
    have h4 := HG4.out.o3
    have h5 := HG4.out.o4
    have h6 := HG4.out.o5
    have h7 := HG4.out.t.lt
    have h8 := HEs.out
    have h9 := HZ.out
    have h10 := HG4.out.p.lt
    exact ((HA4.out.next qu).far gr3 (by omega) (by omega) HBr.out).far gr5 (by omega) (by omega) HBr.out
  have HQ4 : Hid (Q w w4) := Lib.hid HA5.out.q
  obtain ⟨ta, eta, htb, At, ct, hct, ht0, hti⟩ := HT00.out.at_ (k := 1) (by have := HPl.out; omega)
  have hte : T[1]'(by have := HPl.out; omega) = [] := by simp [HT0.out]
  have htl : (T[1]'(by have := HPl.out; omega)).length = 0 := by rw [hte]; rfl
  rw [htl, show ta.add 1 = ⟨ta.block, ta.off + 1, none⟩ by simp [Addr.add]] at ht0
  subst eta
  have Htb := Lib.hid htb
  have Ht0 := Lib.hid ht0
  clear hct ht0 hti hte htl htb
  have ALL : Hid (∀ U, Q w4 U → U.cell? ⟨w.heap.size, 0, none⟩ = some (.slice A 4 4) ∧ U.cell? ⟨w.heap.size, 1, none⟩ = some (.slice S 8 8) ∧ U.cell? ⟨O, 0, none⟩ = some (.slice (some ⟨g0, 0, none⟩) R.length R.length) ∧ U.cell? ⟨O, 1, none⟩ = some (.slice (some ⟨g1, 0, none⟩) c.V.length c.V.length) ∧ U.cell? ⟨O, 2, none⟩ = some (.slice (some ⟨g2, 0, none⟩) c.N.length c.N.length) ∧ U.cell? ⟨O, 3, none⟩ = some (.slice (some ⟨g3, 0, none⟩) c.M.length c.M.length) ∧ U.cell? ⟨O, 4, none⟩ = some (.slice (some ⟨gp, 0, none⟩) P.length P.length) ∧ U.cell? ⟨O, 5, none⟩ = some (.slice (some ⟨gs, 0, none⟩) T.length T.length) ∧ U.cell? ⟨w.heap.size + 1, 0, none⟩ = some (.slice F R.length cr) ∧ U.cell? ⟨w.heap.size + 1, 1, none⟩ = some (.slice Av c.V.length k1) ∧ U.cell? ⟨w.heap.size + 1, 2, none⟩ = some (.slice D c.N.length k2) ∧ U.cell? ⟨w.heap.size + 1, 3, none⟩ = some (.slice E c.M.length k3) ∧ U.cell? ⟨w.heap.size + 1, 4, none⟩ = some (.slice Pa P.length kp) ∧ U.cell? ⟨w.heap.size + 1, 5, none⟩ = some (.slice (some ta) T.length kt) ∧ U.cell? ⟨ta.block, ta.off + 1, none⟩ = some (.slice At 0 ct)) := fun U q => by
    have h := HA5.out.next q
    exact ⟨h.ba.c0, h.ba.c1, h.out.c.c0, h.out.c.c1, h.out.c.c2, h.out.c.c3, h.out.c.c4, h.out.c.c5, h.bg.c0, h.bg.c1, h.bg.c2, h.bg.c3, h.bg.c4, h.bg.c5, ((HQ4.out.trans q).cell (p := ⟨ta.block, ta.off + 1, none⟩) Htb.out).trans Ht0.out⟩
  have ALS : Hid (∀ U V, Q w4 U → U.grownBy V (some Br) → V.cell? ⟨w.heap.size, 0, none⟩ = some (.slice A 4 4) ∧ V.cell? ⟨w.heap.size, 1, none⟩ = some (.slice S 8 8) ∧ V.cell? ⟨O, 0, none⟩ = some (.slice (some ⟨g0, 0, none⟩) R.length R.length) ∧ V.cell? ⟨O, 1, none⟩ = some (.slice (some ⟨g1, 0, none⟩) c.V.length c.V.length) ∧ V.cell? ⟨O, 2, none⟩ = some (.slice (some ⟨g2, 0, none⟩) c.N.length c.N.length) ∧ V.cell? ⟨O, 3, none⟩ = some (.slice (some ⟨g3, 0, none⟩) c.M.length c.M.length) ∧ V.cell? ⟨O, 4, none⟩ = some (.slice (some ⟨gp, 0, none⟩) P.length P.length) ∧ V.cell? ⟨O, 5, none⟩ = some (.slice (some ⟨gs, 0, none⟩) T.length T.length) ∧ V.cell? ⟨w.heap.size + 1, 0, none⟩ = some (.slice F R.length cr) ∧ V.cell? ⟨w.heap.size + 1, 1, none⟩ = some (.slice Av c.V.length k1) ∧ V.cell? ⟨w.heap.size + 1, 2, none⟩ = some (.slice D c.N.length k2) ∧ V.cell? ⟨w.heap.size + 1, 3, none⟩ = some (.slice E c.M.length k3) ∧ V.cell? ⟨w.heap.size + 1, 4, none⟩ = some (.slice Pa P.length kp) ∧ V.cell? ⟨w.heap.size + 1, 5, none⟩ = some (.slice (some ta) T.length kt) ∧ V.cell? ⟨ta.block, ta.off + 1, none⟩ = some (.slice At 0 ct)) := fun U V q gr => by
    have hz := HBr.out
    have hs := q.size
    have hO := HA5.out.out.c.lt
    have hOb : w.heap.size + 3 ≤ O := by have := HG4.out.o0; have := HZ.out; have := HG4.out.t.lt; have := HG4.out.p.lt; have := HG4.out.o5; have := HG4.out.o4; have := HG4.out.o3; have := HG4.out.o2; have := HG4.out.o1; have := HEs.out; omega
    obtain ⟨e0, e1, e2, e3, e4, e5, e6, e7, e8, e9, e10, e11, e12, e13, e14⟩ := ALL.out U q
    have htb := Htb.out
    exact ⟨far_cell gr e0 (by show w.heap.size ≠ Br; omega) (by show w.heap.size < _; omega), far_cell gr e1 (by show w.heap.size ≠ Br; omega) (by show w.heap.size < _; omega), far_cell gr e2 (by show O ≠ Br; omega) (by show O < _; omega), far_cell gr e3 (by show O ≠ Br; omega) (by show O < _; omega), far_cell gr e4 (by show O ≠ Br; omega) (by show O < _; omega), far_cell gr e5 (by show O ≠ Br; omega) (by show O < _; omega), far_cell gr e6 (by show O ≠ Br; omega) (by show O < _; omega), far_cell gr e7 (by show O ≠ Br; omega) (by show O < _; omega), far_cell gr e8 (by show w.heap.size + 1 ≠ Br; omega) (by show w.heap.size + 1 < _; omega), far_cell gr e9 (by show w.heap.size + 1 ≠ Br; omega) (by show w.heap.size + 1 < _; omega), far_cell gr e10 (by show w.heap.size + 1 ≠ Br; omega) (by show w.heap.size + 1 < _; omega), far_cell gr e11 (by show w.heap.size + 1 ≠ Br; omega) (by show w.heap.size + 1 < _; omega), far_cell gr e12 (by show w.heap.size + 1 ≠ Br; omega) (by show w.heap.size + 1 < _; omega), far_cell gr e13 (by show w.heap.size + 1 ≠ Br; omega) (by show w.heap.size + 1 < _; omega), far_cell gr e14 (by show ta.block ≠ Br; omega) (by show ta.block < _; omega)⟩
  have CA : Hid (∀ U, Q w4 U → Calls Tryz.prog 44 #[.agg #[.slice A 4 4, .slice S 8 8], .agg #[.slice F R.length cr, .slice Av c.V.length k1, .slice D c.N.length k2, .slice E c.M.length k3, .slice Pa P.length kp, .slice (some ta) T.length kt], .int .i64 2, .slice At 0 ct] U fun e w' => ∃ v, e = .returned v ∧ w'.ownsRow U.heap.size 48 2 v 0 [] ∧ Q U w') := fun U q => by
    have qq := HQ4.out.trans q
    exact allAbove12 R c.V A S Av D E Pa (some ta) At c.N c.M 4 4 8 8 c.V.length k1 c.N.length k2 c.M.length k3 kp kt P.length T.length 0 ct (.slice F R.length cr) twoK [] 2 U rfl lay_two.symm ((Hk0.out.1.q (Nat.le_refl _) qq).more qq.size) ((Hk0.out.2.q (Nat.le_refl _) qq).more qq.size) okS_two rfl (HGd.out.rd.q qq) rfl rfl (by rw [HC0.out, HR0.out]; exact cl2) (by have := HPl.out; omega) (by have := HPl.out; omega) (by have := HPl.out; omega) (by have := HPl.out; rw [HC0.out]; decide) rfl (Tr.Rds.nil _ _ _) (by simp)
  obtain ⟨s0, s1, s2, s3, s4, s5, s6, s7, s8, s9, s10, s11, s12, s13, s14⟩ := ALL.out w4 (Q.refl _)
  have jT : (1 : Int) < (T.length : Int) := by have := HPl.out; omega
  have hX5 := HA5.out.res
  clear jP
  go_region_held3 (fun w' => w'.cell? ⟨w.heap.size, 0, none⟩ = some (.slice A 4 4) ∧ w'.cell? ⟨w.heap.size, 1, none⟩ = some (.slice S 8 8) ∧ w'.cell? ⟨O, 0, none⟩ = some (.slice (some ⟨g0, 0, none⟩) R.length R.length) ∧ w'.cell? ⟨O, 1, none⟩ = some (.slice (some ⟨g1, 0, none⟩) c.V.length c.V.length) ∧ w'.cell? ⟨O, 2, none⟩ = some (.slice (some ⟨g2, 0, none⟩) c.N.length c.N.length) ∧ w'.cell? ⟨O, 3, none⟩ = some (.slice (some ⟨g3, 0, none⟩) c.M.length c.M.length) ∧ w'.cell? ⟨O, 4, none⟩ = some (.slice (some ⟨gp, 0, none⟩) P.length P.length) ∧ w'.cell? ⟨O, 5, none⟩ = some (.slice (some ⟨gs, 0, none⟩) T.length T.length) ∧ w'.cell? ⟨w.heap.size + 1, 0, none⟩ = some (.slice F R.length cr) ∧ w'.cell? ⟨w.heap.size + 1, 1, none⟩ = some (.slice Av c.V.length k1) ∧ w'.cell? ⟨w.heap.size + 1, 2, none⟩ = some (.slice D c.N.length k2) ∧ w'.cell? ⟨w.heap.size + 1, 3, none⟩ = some (.slice E c.M.length k3) ∧ w'.cell? ⟨w.heap.size + 1, 4, none⟩ = some (.slice Pa P.length kp) ∧ w'.cell? ⟨w.heap.size + 1, 5, none⟩ = some (.slice (some ta) T.length kt) ∧ w'.cell? ⟨ta.block, ta.off + 1, none⟩ = some (.slice At 0 ct))
    (first
      | (with_reducible exact ALL.out _ p5)
      | (with_reducible exact ALS.out _ _ p5 (set6_grown _ _ _ _ _ _ _ _))
      | exact ⟨s0, s1, s2, s3, s4, s5, s6, s7, s8, s9, s10, s11, s12, s13, s14⟩
      | go_keep)
    (first
      | (go_at_call 44; refine (CA.out _ (Q.refl w4).drew).mono ?_; rintro e w5 ⟨v5, rfl, own5, q5⟩; obtain ⟨Al, cl, rfl, -, -⟩ := Rw.own_read own5; have p5 : Q w4 w5 := (Q.refl w4).drew.trans q5; have hX6 := (HA5.out.next p5).res; have x0 := hX6.c.c0; have x1 := hX6.c.c1; have x2 := hX6.c.c2; have x3 := hX6.c.c3; have x4 := hX6.c.c4; have x5 := hX6.c.c5; have xf0 := hX6.f0; have xf1 := hX6.f1; have xf2 := hX6.f2; have xf3 := hX6.f3; have xf4 := hX6.f4; have xf5 := hX6.f5; clear own5 q5 hX6)
      | fail)
  have HQ5 := Lib.hid p5
  have BZ := Lib.hid ((HA5.out.next HQ5.out).res.set (.slice (some ⟨g0, 0, none⟩) R.length R.length) (.slice (some ⟨g1, 0, none⟩) c.V.length c.V.length) (.slice (some ⟨g2, 0, none⟩) c.N.length c.N.length) (.slice (some ⟨g3, 0, none⟩) c.M.length c.M.length) (.slice (some ⟨gp, 0, none⟩) P.length P.length) (.slice (some ⟨gs, 0, none⟩) T.length T.length))
  have hgr := Lib.hid (set6_grown w5 Br (.slice (some ⟨g0, 0, none⟩) R.length R.length) (.slice (some ⟨g1, 0, none⟩) c.V.length c.V.length) (.slice (some ⟨g2, 0, none⟩) c.N.length c.N.length) (.slice (some ⟨g3, 0, none⟩) c.M.length c.M.length) (.slice (some ⟨gp, 0, none⟩) P.length P.length) (.slice (some ⟨gs, 0, none⟩) T.length T.length))
  clear s0 s1 s2 s3 s4 s5 s6 s7 s8 s9 s10 s11 s12 s13 s14 x0 x1 x2 x3 x4 x5 xf0 xf1 xf2 xf3 xf4 xf5 p5 hX5
  go_wp2_with fail
  have y0 := BZ.out.c.c0
  have y1 := BZ.out.c.c1
  have y2 := BZ.out.c.c2
  have y3 := BZ.out.c.c3
  have y4 := BZ.out.c.c4
  have y5 := BZ.out.c.c5
  have e5 : ([[], [2]] : List (List Int)).length = P.length := by have := HPl.out.1; rw [this]; rfl
  refine bodyPost_ret (v := .tuple #[gvP R c [[], [2]] T (some ⟨g0, 0, none⟩) (some ⟨g1, 0, none⟩) (some ⟨g2, 0, none⟩) (some ⟨g3, 0, none⟩) (some ⟨gp, 0, none⟩) (some ⟨gs, 0, none⟩) R.length c.V.length c.N.length c.M.length P.length T.length, .slice Al 0 cl, .bool true]) (by unfold gvP; rw [e5]; simp [results, Tryz.f69, go_sem, y0, y1, y2, y3, y4, y5]) rfl ?_
  have hbr := HBr.out
  have hg := (HL5.out.next HQ5.out).grp HPl.out.1
  have hg2 := hg.to (agree_grown (P := fun b => w.heap.size + 3 ≤ b) hgr.out (by show ¬ w.heap.size + 3 ≤ Br; omega)) (K' := fun b => w.heap.size ≤ b) (fun b hb _ => Nat.le_trans (Nat.le_add_right _ 3) hb)
  exact ⟨_, _, _, _, _, _, _, _, _, _, _, _, Al, cl, rfl, hg2, grown_q hgr.out (HQ4.out.trans HQ5.out) (by omega)⟩
end Go.Proofs.YtjmopbimleoidaaGreat.Ig

namespace Go.Proofs.YtjmopbimleoidaaGreat.Ig
open Go.RowKit Kit Tr Uf
open Go.Proofs.YtjmopbimleoidaaGreat.Hs (Keys Ints BoxT layI KeysP IntsP)
open Go.Proofs.YtjmopbimleoidaaGreat.Tm (Tm termAt of_any Box4)
theorem rep_2 : repV twoK c2.V 2 = 2 := by decide
theorem rep_3 : repV twoK c2.V 3 = 3 := by decide
theorem num_2 : varN twoK 2 2 = 0 ∧ decide (0 ≤ numV twoK 2 2) = true := by decide
theorem num_3 : varN twoK 2 3 = 1 ∧ decide (0 ≤ numV twoK 2 3) = true := by decide
theorem all_2 : allV twoK 2 = true := by decide
theorem variable12e (A S Av Pa Ta : Option Addr) (n c ms d m cv mp cp mt ct : Nat) (r b2 b3 : Value) (ks : List (List Int)) (id : Int) (w : World) (hp : mp = m) (ht : mt = m) (hn : n = ks.length) (hk : Keys w w.heap.size A ks) (hO : OkS ks) :
    Calls Tryz.prog 67 #[.agg #[.slice A n c, .slice S ms d], .agg #[r, .slice Av m cv, b2, b3, .slice Pa mp cp, .slice Ta mt ct], .int .i64 id] w fun e w' => e = .returned (.tuple #[.int .i64 (varN ks m id), .bool (decide (0 ≤ numV ks m id))]) ∧ Q w w' := by
  subst hp ht
  exact variable12 A S Av Pa Ta n c ms d _ cv cp ct r b2 b3 ks id w hn hk hO

set_option maxRecDepth 100000 in
set_option maxHeartbeats 8000000 in
theorem add_ex (R : List Int) (c : Cells) (P T : List (List Int)) (A S F Av D E Pa Ta : Option Addr) (cr k1 k2 k3 kp kt : Nat) (w : World) (hR0 : R = []) (hc0 : c = c2) (hP0 : P = [[], []]) (hT0 : T = [[], []]) (hk : Keys w w.heap.size A twoK) (hS : Ints w w.heap.size S (layI twoK))
    (hG : GRP w (fun _ => True) R c P T F Av D E Pa Ta cr k1 k2 k3 kp kt) :
    Calls Tryz.prog 27 #[.agg #[.slice A 4 4, .slice S 8 8], .agg #[.slice F R.length cr, .slice Av c.V.length k1, .slice D c.N.length k2, .slice E c.M.length k3, .slice Pa P.length kp, .slice Ta T.length kt], .agg #[.int .i64 2, .int .i64 3]] w fun e w' => ∃ F A D E Pa Ta cr k1 k2 k3 kp kt Al cl, e = .returned (.tuple #[gvP R c [[], [2]] T F A D E Pa Ta cr k1 k2 k3 kp kt, .slice Al 0 cl, .bool true]) ∧ GRP w' (fun b => w.heap.size ≤ b) R c [[], [2]] T F A D E Pa Ta cr k1 k2 k3 kp kt ∧ Q w w' := by
  have q0 := ((((Q.refl w).alloc (Obj.cells #[.slice A 4 4, .slice S 8 8] 26)).alloc (Obj.cells #[.slice F R.length cr, .slice Av c.V.length k1, .slice D c.N.length k2, .slice E c.M.length k3, .slice Pa P.length kp, .slice Ta T.length kt] 31)).alloc (Obj.cells #[.int .i64 2, .int .i64 3] 48)).alloc (Obj.cells #[.slice none 0 0, .slice none 0 0, .slice none 0 0, .slice none 0 0, .slice none 0 0, .slice none 0 0] 31)
  have HBa := Lib.hid ((BoxT.new w (.slice A 4 4) (.slice S 8 8) 26).q ((((Q.refl _).alloc (Obj.cells #[.slice F R.length cr, .slice Av c.V.length k1, .slice D c.N.length k2, .slice E c.M.length k3, .slice Pa P.length kp, .slice Ta T.length kt] 31)).alloc (Obj.cells #[.int .i64 2, .int .i64 3] 48)).alloc (Obj.cells #[.slice none 0 0, .slice none 0 0, .slice none 0 0, .slice none 0 0, .slice none 0 0, .slice none 0 0] 31)))
  have X := (Box6.new (w.alloc (Obj.cells #[.slice A 4 4, .slice S 8 8] 26)) (.slice F R.length cr) (.slice Av c.V.length k1) (.slice D c.N.length k2) (.slice E c.M.length k3) (.slice Pa P.length kp) (.slice Ta T.length kt) 31).q (((Q.refl _).alloc (Obj.cells #[.int .i64 2, .int .i64 3] 48)).alloc (Obj.cells #[.slice none 0 0, .slice none 0 0, .slice none 0 0, .slice none 0 0, .slice none 0 0, .slice none 0 0] 31))
  rw [World.size_alloc] at X
  have HBg := Lib.hid X
  have X3 := (own_new12 ((w.alloc (Obj.cells #[.slice A 4 4, .slice S 8 8] 26)).alloc (Obj.cells #[.slice F R.length cr, .slice Av c.V.length k1, .slice D c.N.length k2, .slice E c.M.length k3, .slice Pa P.length kp, .slice Ta T.length kt] 31)) [.int .i64 2, .int .i64 3] 48).q ((Q.refl _).alloc (Obj.cells #[.slice none 0 0, .slice none 0 0, .slice none 0 0, .slice none 0 0, .slice none 0 0, .slice none 0 0] 31))
  rw [World.size_alloc, World.size_alloc] at X3
  have X2 := BoxW.new (((w.alloc (Obj.cells #[.slice A 4 4, .slice S 8 8] 26)).alloc (Obj.cells #[.slice F R.length cr, .slice Av c.V.length k1, .slice D c.N.length k2, .slice E c.M.length k3, .slice Pa P.length kp, .slice Ta T.length kt] 31)).alloc (Obj.cells #[.int .i64 2, .int .i64 3] 48)) (.slice none 0 0) (.slice none 0 0) (.slice none 0 0) (.slice none 0 0) (.slice none 0 0) (.slice none 0 0) 31
  rw [World.size_alloc, World.size_alloc, World.size_alloc] at X2
  obtain ⟨Bp, hBp⟩ : ∃ B, B = w.heap.size + 1 + 1 := ⟨_, rfl⟩
  obtain ⟨Br, hBr⟩ : ∃ B, B = w.heap.size + 1 + 1 + 1 := ⟨_, rfl⟩
  rw [← hBp] at X3
  rw [← hBr] at X2
  have HX := Lib.hid X2
  have HBp := Lib.hid X3
  have HBr : Hid (Br = w.heap.size + 3) := hBr
  have HZ : Hid (((((w.alloc (Obj.cells #[.slice A 4 4, .slice S 8 8] 26)).alloc (Obj.cells #[.slice F R.length cr, .slice Av c.V.length k1, .slice D c.N.length k2, .slice E c.M.length k3, .slice Pa P.length kp, .slice Ta T.length kt] 31)).alloc (Obj.cells #[.int .i64 2, .int .i64 3] 48)).alloc (Obj.cells #[.slice none 0 0, .slice none 0 0, .slice none 0 0, .slice none 0 0, .slice none 0 0, .slice none 0 0] 31)).heap.size = w.heap.size + 4) := by unfold Hid; simp
  have HG := Lib.hid hG
  have HQ0 := Lib.hid q0
  have HK := Lib.hid hk
  have HS := Lib.hid hS
  have HR0 := Lib.hid hR0
  have HC0 := Lib.hid hc0
  have HP0 := Lib.hid hP0
  have HT0 := Lib.hid hT0
  have HPl : Hid (P.length = c.V.length ∧ T.length = c.V.length ∧ c.V.length = 2 ∧ c.V.length ≤ 1000000) := by unfold Hid; rw [hP0, hT0, hc0]; decide
  clear X X2 X3 q0 hG hk hS hR0 hc0 hP0 hT0
  have CR : Hid (∀ (id r : Int) (U : World), Q w U → repV twoK c2.V id = r → Calls Tryz.prog 30 #[.agg #[.slice A 4 4, .slice S 8 8], .agg #[.slice F R.length cr, .slice Av c.V.length k1, .slice D c.N.length k2, .slice E c.M.length k3, .slice Pa P.length kp, .slice Ta T.length kt], .int .i64 id] U fun e w' => e = .returned (.int .i64 r) ∧ Q U w') := fun id r U q hr => by
    have h := rep12 R c.V A S Av D E Pa Ta c.N c.M 4 4 8 8 c.V.length k1 c.N.length k2 c.M.length k3 kp kt P.length T.length (.slice F R.length cr) twoK id U rfl lay_two.symm ((HK.out.q (Nat.le_refl _) q).more q.size) ((HS.out.q (Nat.le_refl _) q).more q.size) okS_two rfl (HG.out.rd.q q) rfl rfl (by rw [HC0.out, HR0.out]; exact cl2) HPl.out.2.2.2 HPl.out.1 HPl.out.2.1 (by rw [HC0.out]; exact all_2)
    rw [HC0.out] at h ⊢
    rw [hr] at h
    exact h
  have CV : Hid (∀ (id r : Int) (U : World), Q w U → (varN twoK 2 id = r ∧ decide (0 ≤ numV twoK 2 id) = true) → Calls Tryz.prog 67 #[.agg #[.slice A 4 4, .slice S 8 8], .agg #[.slice F R.length cr, .slice Av c.V.length k1, .slice D c.N.length k2, .slice E c.M.length k3, .slice Pa P.length kp, .slice Ta T.length kt], .int .i64 id] U fun e w' => e = .returned (.tuple #[.int .i64 r, .bool true]) ∧ Q U w') := fun id r U q hr => by
    have h := variable12e A S Av Pa Ta 4 4 8 8 c.V.length k1 P.length kp T.length kt (.slice F R.length cr) (.slice D c.N.length k2) (.slice E c.M.length k3) twoK id U HPl.out.1 HPl.out.2.1 rfl ((HK.out.q (Nat.le_refl _) q).more q.size) okS_two
    have e := HPl.out.2.2.1
    rw [show varN twoK c.V.length id = r by rw [e]; exact hr.1, show decide (0 ≤ numV twoK c.V.length id) = true by rw [e]; exact hr.2] at h
    exact h
  have CL : Hid (∀ U, Q w U → Calls Tryz.prog 40 #[.slice F R.length cr, .int .i64 1, .int .i64 0] U fun e w' => e = .returned (.bool false) ∧ Q U w') := fun U q => by
    have h := less_any R F R.length cr 1 0 U rfl (HG.out.r.rds.q q)
    rw [show lessB R 1 0 = false by rw [HR0.out]; decide] at h
    exact h
  have CP : Hid (∀ U, Q w U → Calls Tryz.prog 69 #[.agg #[.slice A 4 4, .slice S 8 8], .agg #[.slice F R.length cr, .slice Av c.V.length k1, .slice D c.N.length k2, .slice E c.M.length k3, .slice Pa P.length kp, .slice Ta T.length kt], .int .i64 2, .int .i64 1] U fun e w' => ∃ F A D E Pa Ta cr k1 k2 k3 kp kt Al cl, e = .returned (.tuple #[gvP R c [[], [2]] T F A D E Pa Ta cr k1 k2 k3 kp kt, .slice Al 0 cl, .bool true]) ∧ GRP w' (fun b => U.heap.size ≤ b) R c [[], [2]] T F A D E Pa Ta cr k1 k2 k3 kp kt ∧ Q U w') := fun U q =>
    addPre_ex R c P T A S F Av D E Pa Ta cr k1 k2 k3 kp kt U HR0.out HC0.out HP0.out HT0.out ((HK.out.q (Nat.le_refl _) q).more q.size) ((HS.out.q (Nat.le_refl _) q).more q.size) (HG.out.to (agree_q (P := fun _ => True) q) (fun _ _ _ => trivial))
  go_enter Tryz.func27, Tryz.ntmps27
  go_upto_region 1 with fail
  rw [← hBp, show Bp + 1 = Br by rw [hBp, hBr]]
  clear hBp hBr
  generalize (((w.alloc (Obj.cells #[.slice A 4 4, .slice S 8 8] 26)).alloc (Obj.cells #[.slice F R.length cr, .slice Av c.V.length k1, .slice D c.N.length k2, .slice E c.M.length k3, .slice Pa P.length kp, .slice Ta T.length kt] 31)).alloc (Obj.cells #[.int .i64 2, .int .i64 3] 48)).alloc (Obj.cells #[.slice none 0 0, .slice none 0 0, .slice none 0 0, .slice none 0 0, .slice none 0 0, .slice none 0 0] 31) = W0 at *
  have ALL : Hid (∀ U, Q W0 U → U.cell? ⟨w.heap.size, 0, none⟩ = some (.slice A 4 4) ∧ U.cell? ⟨w.heap.size, 1, none⟩ = some (.slice S 8 8) ∧ U.cell? ⟨w.heap.size + 1, 0, none⟩ = some (.slice F R.length cr) ∧ U.cell? ⟨w.heap.size + 1, 1, none⟩ = some (.slice Av c.V.length k1) ∧ U.cell? ⟨w.heap.size + 1, 2, none⟩ = some (.slice D c.N.length k2) ∧ U.cell? ⟨w.heap.size + 1, 3, none⟩ = some (.slice E c.M.length k3) ∧ U.cell? ⟨w.heap.size + 1, 4, none⟩ = some (.slice Pa P.length kp) ∧ U.cell? ⟨w.heap.size + 1, 5, none⟩ = some (.slice Ta T.length kt) ∧ U.cell? ⟨Bp, 0, none⟩ = some (.int .i64 2) ∧ U.cell? ⟨Bp, 1, none⟩ = some (.int .i64 3)) := fun U q => by
    have h1 := HBa.out.q q
    have h2 := HBg.out.q q
    have h3 := HBp.out.q q
    exact ⟨h1.c0, h1.c1, h2.c0, h2.c1, h2.c2, h2.c3, h2.c4, h2.c5, (h3.2 0 _ rfl).1, (h3.2 1 _ rfl).1⟩
  obtain ⟨s0, s1, s2, s3, s4, s5, s6, s7, s8, s9⟩ := ALL.out W0 (Q.refl _)
  go_region_held3 (fun w' => w'.cell? ⟨w.heap.size, 0, none⟩ = some (.slice A 4 4) ∧ w'.cell? ⟨w.heap.size, 1, none⟩ = some (.slice S 8 8) ∧ w'.cell? ⟨w.heap.size + 1, 0, none⟩ = some (.slice F R.length cr) ∧ w'.cell? ⟨w.heap.size + 1, 1, none⟩ = some (.slice Av c.V.length k1) ∧ w'.cell? ⟨w.heap.size + 1, 2, none⟩ = some (.slice D c.N.length k2) ∧ w'.cell? ⟨w.heap.size + 1, 3, none⟩ = some (.slice E c.M.length k3) ∧ w'.cell? ⟨w.heap.size + 1, 4, none⟩ = some (.slice Pa P.length kp) ∧ w'.cell? ⟨w.heap.size + 1, 5, none⟩ = some (.slice Ta T.length kt) ∧ w'.cell? ⟨Bp, 0, none⟩ = some (.int .i64 2) ∧ w'.cell? ⟨Bp, 1, none⟩ = some (.int .i64 3))
    (first
      | (with_reducible exact ALL.out _ p2)
      | (with_reducible exact ALL.out _ p1)
      | exact ⟨s0, s1, s2, s3, s4, s5, s6, s7, s8, s9⟩
      | go_keep)
    (first
      | (go_at_call 30; (with_reducible refine (CR.out 2 2 _ HQ0.out.drew rep_2).mono ?_); rintro e w1 ⟨rfl, q1⟩; have p1 : Q W0 w1 := (Q.refl W0).drew.trans q1)
      | (go_at_call 30; (with_reducible refine (CR.out 3 3 _ (HQ0.out.trans p1) rep_3).mono ?_); rintro e w2 ⟨rfl, q2⟩; have p2 : Q W0 w2 := p1.trans q2)
      | fail)
  have HQ2 := Lib.hid p2
  clear s0 s1 s2 s3 s4 s5 s6 s7 s8 s9 p1 p2 q1 q2
  obtain ⟨s0, s1, s2, s3, s4, s5, s6, s7, s8, s9⟩ := ALL.out w2 HQ2.out
  go_wp2_with (first
    | (go_at_call 67; (with_reducible refine (CV.out 2 0 w2 (HQ0.out.trans HQ2.out) num_2).mono ?_); rintro e w3 ⟨rfl, q3⟩; have HQ3 := Lib.hid (HQ2.out.trans q3); clear s0 s1 s2 s3 s4 s5 s6 s7 s8 s9 q3; obtain ⟨s0, s1, s2, s3, s4, s5, s6, s7, s8, s9⟩ := ALL.out w3 HQ3.out)
    | (go_at_call 67; (with_reducible refine (CV.out 3 1 w3 (HQ0.out.trans HQ3.out) num_3).mono ?_); rintro e w4 ⟨rfl, q4⟩; have HQ4 := Lib.hid (HQ3.out.trans q4); clear s0 s1 s2 s3 s4 s5 s6 s7 s8 s9 q4; obtain ⟨s0, s1, s2, s3, s4, s5, s6, s7, s8, s9⟩ := ALL.out w4 HQ4.out)
    | (go_at_call 40; refine (CL.out w4 (HQ0.out.trans HQ4.out)).mono ?_; rintro e w5 ⟨rfl, q5⟩; have HQ5 := Lib.hid (HQ4.out.trans q5); clear s0 s1 s2 s3 s4 s5 s6 s7 s8 s9 q5; obtain ⟨s0, s1, s2, s3, s4, s5, s6, s7, s8, s9⟩ := ALL.out w5 HQ5.out)
    | (go_at_call 69; refine (CP.out w5 (HQ0.out.trans HQ5.out)).mono ?_; rintro e w6 ⟨F6, A6, D6, E6, P6, T6, cr6, l1, l2, l3, lp, lt, Al, cl, rfl, hg6, q6⟩; unfold gvP; rw [show ([[], [2]] : List (List Int)).length = 2 from rfl]; have HG6 := Lib.hid hg6; have HQ6 := Lib.hid (HQ5.out.trans q6); have hx6 := HX.out.q (HQ5.out.trans q6); have x0 := hx6.c.c0; have x1 := hx6.c.c1; have x2 := hx6.c.c2; have x3 := hx6.c.c3; have x4 := hx6.c.c4; have x5 := hx6.c.c5; have xf0 := hx6.f0; have xf1 := hx6.f1; have xf2 := hx6.f2; have xf3 := hx6.f3; have xf4 := hx6.f4; have xf5 := hx6.f5; clear hg6 q6 hx6 s0 s1 s2 s3 s4 s5 s6 s7 s8 s9))
  clear x0 x1 x2 x3 x4 x5 xf0 xf1 xf2 xf3 xf4 xf5
  have bz := (HX.out.q HQ6.out).set (.slice F6 R.length cr6) (.slice A6 c.V.length l1) (.slice D6 c.N.length l2) (.slice E6 c.M.length l3) (.slice P6 2 lp) (.slice T6 T.length lt)
  have y0 := bz.c.c0
  have y1 := bz.c.c1
  have y2 := bz.c.c2
  have y3 := bz.c.c3
  have y4 := bz.c.c4
  have y5 := bz.c.c5
  have hgr := set6_grown w6 Br (.slice F6 R.length cr6) (.slice A6 c.V.length l1) (.slice D6 c.N.length l2) (.slice E6 c.M.length l3) (.slice P6 2 lp) (.slice T6 T.length lt)
  refine bodyPost_ret (v := .tuple #[gvP R c [[], [2]] T F6 A6 D6 E6 P6 T6 cr6 l1 l2 l3 lp lt, .slice Al 0 cl, .bool true]) (by unfold gvP; rw [show ([[], [2]] : List (List Int)).length = 2 from rfl]; simp [results, Tryz.f27, go_sem, y0, y1, y2, y3, y4, y5]) rfl ?_
  have hbr := HBr.out
  have h5 := HQ5.out.size
  have hz := HZ.out
  have hg2 := HG6.out.to (agree_grown (P := fun b => w5.heap.size ≤ b) hgr (by show ¬ w5.heap.size ≤ Br; omega)) (K' := fun b => w.heap.size ≤ b) (fun b hb _ => by have : w5.heap.size ≤ b := hb; show w.heap.size ≤ b; omega)
  exact ⟨_, _, _, _, _, _, _, _, _, _, _, _, Al, cl, rfl, hg2, grown_q hgr (HQ0.out.trans HQ6.out) (by omega)⟩
end Go.Proofs.YtjmopbimleoidaaGreat.Ig

namespace Go.Proofs.YtjmopbimleoidaaGreat.Uf
open Go.RowKit Kit Tr

theorem own_read {w : World} {base : Nat} {v : Value} {n : Nat} {l : List Int} (h : w.ownsRow base 3 1 v n (cellsI l)) (hn : n = l.length) : ∃ A c, v = .slice A l.length c ∧ l.length ≤ c ∧ Rds w w.heap.size A (cellsI l) := by
  subst hn
  have h2 := h
  obtain ⟨hl, ⟨rfl, h0⟩ | ⟨g, cap, cur, rfl, hg, hh, hc, _⟩⟩ := h
  · exact ⟨none, 0, by rw [h0], by omega, fun h => by rw [cellsI_len] at h; omega⟩
  · exact ⟨_, cap, rfl, hc, (OwnC.of_row h2).rds⟩
end Go.Proofs.YtjmopbimleoidaaGreat.Uf

namespace Go.Proofs.YtjmopbimleoidaaGreat.Uf
open Go.RowKit Kit Tr

theorem make_ints (n : Nat) (hn : n ≤ 100000000) (u : World) : (Instr.makeSlice 24 (.int .i64 (n : Int)) (.int .i64 (n : Int))).run Tryz.prog u = .ok (.slice (some ⟨u.heap.size, 0, none⟩) n n) (u.alloc (.cells (madeCells #[.int .i64 0] n) 3)) := by
  obtain ⟨i0, hi, hz0, hz1, hz2⟩ := info_parts intInfo
  have h := run_make (P := Tryz.prog) u 24 3 i0 _ Tryz.underlying24 hi hz0 .i64 .i64 (n : Int) (n : Int) (by omega) (by omega) (by rw [hz2]; omega) (by omega)
  rw [hz1, Nat.mul_one] at h
  exact h

end Go.Proofs.YtjmopbimleoidaaGreat.Uf

namespace Go.Proofs.YtjmopbimleoidaaGreat.Uf
open Go.RowKit Kit Tr

end Go.Proofs.YtjmopbimleoidaaGreat.Uf

namespace Go.Proofs.YtjmopbimleoidaaGreat.Uf
open Go.RowKit Kit Tr

set_option maxRecDepth 100000 in
set_option maxHeartbeats 1000000 in
theorem rightU_true (R : List Int) (c : Cells) (A D E F : Option Addr) (n1 k1 n2 k2 n3 k3 n4 k4 : Nat) (w : World) (h1 : n1 = c.V.length) (h2 : n2 = c.N.length) (h3 : n3 = c.M.length) (h4 : n4 = R.length) (h : Rd w c A k1 D k2 E k3) (hR : Rds w w.heap.size F (cellsI R)) (hf : Few c 1000000) (hC : Cl R c.V) (hr : rightB c = true) :
    Calls Tryz.prog 70 #[.agg #[.slice A n1 k1, .slice D n2 k2, .slice E n3 k3], .slice F n4 k4] w fun e w' => e = .returned (.bool true) ∧ Q w w' := by
  subst h1 h2 h3 h4
  have q0 := (Q.refl w).alloc (Obj.cells #[Value.slice A c.V.length k1, Value.slice D c.N.length k2, Value.slice E c.M.length k3] 29)
  have HB := Lib.hid (Box3.new w (Value.slice A c.V.length k1) (Value.slice D c.N.length k2) (Value.slice E c.M.length k3) 29)
  have HR := Lib.hid (h.q q0)
  have HRk := Lib.hid (hR.q q0)
  have HC := Lib.hid hC
  have Hf := Lib.hid hf
  have Hr := Lib.hid hr
  have fv := hf.1
  clear h hR hC hf hr
  go_enter Tryz.func70, Tryz.ntmps70
  go_upto_region 1 with fail
  generalize w.alloc (Obj.cells #[Value.slice A c.V.length k1, Value.slice D c.N.length k2, Value.slice E c.M.length k3] 29) = W0 at *
  have HF := Lib.hid (fun (a b : Int) W (q : Q (twoF W0 F R.length k4) W) => aheadF R F _ k4 rfl a b W0 W HRk.out q)
  have qF := twoF_q W0 F R.length k4
  go_upto_region 2 with (go_at_call 85; refine (order_any _ _ _ _).mono ?_; rintro e w1 ⟨rfl, rfl⟩)
  generalize twoF W0 F R.length k4 = W1 at *
  have HB1 := Lib.hid (HB.out.q qF)
  have HR1 := Lib.hid (HR.out.q qF)
  have b0 := HB1.out.c0
  have Hq1 := Lib.hid (q0.trans qF)
  go_wp2_with fail
  go_loopw [13] (fun i wr => ∃ (k : Nat), k ≤ c.V.length ∧ i = .int .i64 k ∧ Hid (Q W1 wr)) (fun i _ => c.V.length - (intOf i).toNat)
  case atStart => exact ⟨0, Nat.zero_le _, rfl, Lib.hid (Q.refl _)⟩
  case round =>
    clear b0
    obtain ⟨k, hk, rfl, HQ⟩ := hrel
    have b0 := (HB1.out.q HQ.out).c0
    have b1 := (HB1.out.q HQ.out).c1
    have b2 := (HB1.out.q HQ.out).c2
    by_cases hlt : k < c.V.length
    · obtain ⟨ad, e, _, c0⟩ := (HR1.out.v.q HQ.out).int_at hlt
      rw [HC.out.at hlt] at c0
      rw [e] at b0
      obtain ⟨p1, _, p3⟩ := HC.out.parent hlt
      clear e
      by_cases e : par c.V k = k
      · rw [e] at c0
        have e1 : ((k : Int) != (k : Int)) = false := by simp
        clear p3 e
        go_wp2_with fail
        go_roundw
        case rel => exact ⟨k + 1, by omega, by go_num, HQ⟩
        case measure => simp [intOf]; omega
      · have hl := p3.resolve_left e
        have C := Lib.hid (HF.out (par c.V k : Int) (k : Int) wr HQ.out)
        rw [hl] at C
        have e1 : ((par c.V k : Int) != (k : Int)) = true := bne_iff_ne.2 (by omega)
        have e2 : (par c.V k != k) = true := by simpa using e
        have hd : (decide (0 ≤ (par c.V k : Int)) && decide ((par c.V k : Int) < (c.V.length : Int))) = true := by rw [decide_eq_true (show (0 : Int) ≤ (par c.V k : Int) by omega), decide_eq_true (show (par c.V k : Int) < (c.V.length : Int) by omega)]; rfl
        clear p3 e hl
        go_wp2_with (first
          | (go_at_call 86; refine (placeU _ _ _).mono ?_; rintro e w4 ⟨rfl, rfl⟩; rw [hd])
          | (go_at_call 118; refine C.out.mono ?_; rintro e w4 ⟨rfl, hd4⟩; have q4 := q_drewN _ hd4; clear hd4))
        go_roundw
        case rel => exact ⟨k + 1, by omega, by go_num, Lib.hid (HQ.out.trans q4)⟩
        case measure => simp [intOf]; omega
    · have C := Lib.hid (right_true c A D E _ k1 _ k2 _ k3 wr rfl rfl rfl (HR1.out.q HQ.out) Hf.out Hr.out)
      go_wp2_with (go_at_call 113; refine C.out.mono ?_; rintro e w4 ⟨rfl, q4⟩)
      go_ret
      exact ⟨rfl, Hq1.out.trans (HQ.out.trans q4)⟩

def e0 : Cells := ⟨[], [], []⟩
def e1 : Cells := ⟨[0], [(-1, 0)], []⟩
def e2 : Cells := ⟨[0, 1], [(-1, 0), (-1, 0)], []⟩
def e3 : Cells := ⟨[0, 1, 2], [(-1, 0), (-1, 0), (-1, 0)], []⟩
def e4 : Cells := ⟨[0, 1, 1], [(-1, 0), (-1, 0), (-1, 0), (2, 2)], []⟩
end Go.Proofs.YtjmopbimleoidaaGreat.Uf

namespace Go.Proofs.YtjmopbimleoidaaGreat.Ig
open Go.RowKit Kit Tr Uf
open Go.Proofs.YtjmopbimleoidaaGreat.Hs (Keys Ints BoxT layI KeysP IntsP)
open Go.Proofs.YtjmopbimleoidaaGreat.Tm (Tm termAt of_any Box4)
set_option maxRecDepth 100000 in
set_option maxHeartbeats 8000000 in
theorem areRows_one (B : Nat) (c : Cells) (rows : List (List Int)) (A D E Pa : Option Addr) (n1 k1 n2 k2 n3 k3 np kp : Nat) (w : World) (hn1 : n1 = c.V.length) (hA : Tr.Rds w w.heap.size A (cellsI c.V)) (hnp : np = rows.length) (hP : Keys w w.heap.size Pa rows) (hn : rows.length = c.V.length) (hl : c.V.length ≤ 1000)
    (h1 : ∀ row ∈ rows, row.length ≤ 1) (h2 : ∀ (v : Nat) (hv : v < c.V.length), c.V[v] = (v : Int))
    (hC : ∀ (v : Nat) (hv : v < rows.length) (p : Int) (W : World), p ∈ rows[v] → Q w W → Calls Tryz.prog 148 #[.int .i64 (v : Int), .int .i64 p, .pointer (some ⟨B, 0, none⟩), .pointer (some ⟨B + 1, 0, none⟩), .pointer (some ⟨B + 1 + 1, 0, none⟩)] W fun e w' => e = .returned (.bool true) ∧ Q W w') :
    Calls Tryz.prog 71 #[.agg #[.slice A n1 k1, .slice D n2 k2, .slice E n3 k3], .slice Pa np kp, mayFn B] w fun e w' => e = .returned (.bool true) ∧ Q w w' := by
  subst hn1 hnp
  have q0 := (Q.refl w).alloc (Obj.cells #[.slice A c.V.length k1, .slice D n2 k2, .slice E n3 k3] 29)
  have HB := Lib.hid (Box3.new w (.slice A c.V.length k1) (.slice D n2 k2) (.slice E n3 k3) 29)
  have HA := Lib.hid (hA.q q0)
  have HP := Lib.hid ((hP.q (Nat.le_refl _) q0).more q0.size)
  have HQ0 := Lib.hid q0
  have H1 := Lib.hid h1
  have H2 := Lib.hid h2
  have HC := Lib.hid hC
  have HN := Lib.hid hn
  have d0 : ((rows.length : Int) != (c.V.length : Int)) = false := by rw [hn]; simp
  have hrl : rows.length ≤ 1000 := by omega
  clear hA hP q0 h1 h2 hC hn
  unfold mayFn
  go_enter Tryz.func71, Tryz.ntmps71
  go_upto_region 1 with fail
  generalize w.alloc (Obj.cells #[.slice A c.V.length k1, .slice D n2 k2, .slice E n3 k3] 29) = W0 at *
  have b0 := HB.out.c0
  go_wp2_with fail
  clear b0
  go_loopw [19] (fun i wr => ∃ k : Nat, k ≤ rows.length ∧ i = .int .i64 k ∧ Hid (Q W0 wr)) (fun i _ => rows.length - (intOf i).toNat)
  case atStart => exact ⟨0, Nat.zero_le _, rfl, Lib.hid (Q.refl _)⟩
  case round =>
    obtain ⟨k, hk, rfl, HQ⟩ := hrel
    by_cases hlt : k < rows.length
    · obtain ⟨ad, rfl, hadb, Ar, cr, hcr, p0, hri⟩ := ((HP.out.q (Nat.le_refl _) HQ.out).more HQ.out.size).at_ hlt
      have hkV : k < c.V.length := by have := HN.out; omega
      obtain ⟨va, rfl, hvb, v0⟩ := (HA.out.q HQ.out).int_at hkV
      rw [H2.out k hkV] at v0
      have b0 := (HB.out.q HQ.out).c0
      have HR1 := Lib.hid (H1.out _ (List.getElem_mem hlt))
      have HLT := Lib.hid hlt
      have HRi := Lib.hid hri
      have HCk : Hid (∀ (p : Int) (W : World), p ∈ rows[k] → Q w W → Calls Tryz.prog 148 #[.int .i64 (k : Int), .int .i64 p, .pointer (some ⟨B, 0, none⟩), .pointer (some ⟨B + 1, 0, none⟩), .pointer (some ⟨B + 1 + 1, 0, none⟩)] W fun e w' => e = .returned (.bool true) ∧ Q W w') := fun p W => HC.out k hlt p W
      clear hri hcr hadb hvb
      generalize rows[k] = row at *
      match hrow : row with
      | [] =>
        clear HCk HRi
        go_wp2_with fail
        go_loopw [38] (fun i wx => i = .int .i64 0 ∧ Hid (Q W0 wx)) (fun _ _ => 0)
        case atStart => exact ⟨rfl, HQ⟩
        case round =>
          obtain ⟨rfl, HQx⟩ := hrel
          go_wp2_with fail
          go_roundw
          case rel => exact ⟨k + 1, HLT.out, by go_num, HQx⟩
          case measure => have := HLT.out; simp [intOf]; omega
      | [p] =>
        obtain ⟨ra, rfl, hrb, r0⟩ := HRi.out.at_ (k := 0) (by simp)
        have CP := Lib.hid (HCk.out p)
        have HR0 : Hid (wr.cell? ra = some (.int .i64 p) ∧ ra.block < wr.heap.size) := by
          rw [show ra.add 0 = ra by simp [Addr.add]] at r0
          exact Lib.hid ⟨r0, hrb⟩
        clear HCk HRi r0 hrb
        go_wp2_with fail
        clear b0 p0 v0
        go_loopw [38] (fun i wx => ∃ j : Nat, j ≤ 1 ∧ i = .int .i64 j ∧ Hid (Q wr wx)) (fun i _ => 1 - (intOf i).toNat)
        case atStart => exact ⟨0, by omega, rfl, Lib.hid (Q.refl _)⟩
        case round =>
          obtain ⟨j, hj, rfl, HQx⟩ := hrel
          rcases j with _ | j
          · rename_i wx _ _ _
            have r0 := (HQx.out.cell (p := ra) HR0.out.2).trans HR0.out.1
            go_wp2_with (go_at_call 148; refine (CP.out _ (by simp) (HQ0.out.trans (HQ.out.trans HQx.out))).mono ?_; rintro e w4 ⟨rfl, q4⟩; have HQ4 := Lib.hid (HQx.out.trans q4))
            go_roundw
            case rel => exact ⟨1, by omega, by go_num, HQ4⟩
            case measure => simp [intOf]
          · obtain rfl : j = 0 := by omega
            go_wp2_with fail
            go_roundw
            case rel => exact ⟨k + 1, HLT.out, by go_num, Lib.hid (HQ.out.trans HQx.out)⟩
            case measure => have := HLT.out; simp [intOf]; omega
      | _ :: _ :: _ => exact absurd HR1.out (by simp)
    · go_wp2_with fail
      go_ret
      exact ⟨rfl, HQ0.out.trans HQ.out⟩
end Go.Proofs.YtjmopbimleoidaaGreat.Ig
