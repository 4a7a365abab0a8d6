/-
  What the proofs lean on, part 7 of 12.
-/
import Derived.Test.YtjmopbimleoidaaGreatPa
import Derived.Test.YtjmopbimleoidaaGreatPb
import Derived.Test.YtjmopbimleoidaaGreatPd
import Derived.Test.YtjmopbimleoidaaGreatPe
import Derived.Test.YtjmopbimleoidaaGreatPf
import Derived.Lib.SliceRun
import Derived.Laws.EntriesVeiled
import Derived.Deep.RegionHeld3
namespace Go.Proofs.YtjmopbimleoidaaGreat.Uf
open Go.RowKit Kit Tr

theorem OwnO.far {w w' : World} {B g : Nat} {A : Option Addr} {cs : List Value} (h : OwnO w B A cs) (hg : w.grownBy w' (some g)) (hB : g < B) : OwnO w' B A cs := fun h0 => by
  obtain ⟨g', e, hb, hc⟩ := h h0
  exact ⟨g', e, hb, hc.grown hg (by simp; omega)⟩
theorem OwnO.rds {w : World} {B : Nat} {A : Option Addr} {cs : List Value} (h : OwnO w B A cs) : Rds w w.heap.size A cs := fun h0 => by
  obtain ⟨g', rfl, _, hc⟩ := h h0
  exact hc.rds h0
theorem OwnO.base {w : World} {B B' : Nat} {A : Option Addr} {cs : List Value} (h : OwnO w B A cs) (hB : B' ≤ B) : OwnO w B' A cs := fun h0 => by
  obtain ⟨g', e, hb, hc⟩ := h h0
  exact ⟨g', e, by omega, hc⟩
theorem own_o {w : World} {base : Nat} {e : TypeId} {size n : Nat} {v : Value} {cs : List Value} (h : w.ownsRow base e size v n cs) : ∃ A c, v = .slice A n c ∧ n ≤ c ∧ OwnO w base A cs := by
  have h2 := h
  obtain ⟨hl, ⟨rfl, h0⟩ | ⟨g, cap, cur, rfl, hg, hh, hc, _⟩⟩ := h
  · exact ⟨none, 0, by rw [h0], by omega, fun h => by rw [hl, h0] at h; simp at h⟩
  · exact ⟨_, cap, rfl, hc, fun _ => ⟨g, rfl, hg, OwnC.of_row h2⟩⟩
/-- a copy: nil, or in a block of its own -/
def CloneP (n : Nat) (cs : List Value) (w : World) (e : Ending) (w' : World) : Prop :=
  ∃ A c, e = .returned (.slice A n c) ∧ n ≤ c ∧ OwnO w' w.heap.size A cs ∧ Q w w'

set_option maxHeartbeats 1000000 in
theorem cloneI (A : Option Addr) (n c : Nat) (l : List Int) (w : World) (hn : n = l.length) (hr : Rds w w.heap.size A (cellsI l)) (hl : l.length ≤ 1000000) :
    Calls Tryz.prog 119 #[.slice A n c] w (CloneP l.length (cellsI l) w) := by
  subst hn
  have heq := fun u => Lib.run_eql_slice_nil (P := Tryz.prog) u 24 3 A l.length c 0 0 Tryz.underlying24
  cases A with
  | none =>
    have e : l = [] := by
      rcases Nat.eq_zero_or_pos l.length with h | h
      · exact List.eq_nil_of_length_eq_zero h
      · obtain ⟨_, e, _⟩ := hr (by rw [cellsI_len]; omega); cases e
    subst e
    have heq' : ∀ u, (binOp .eql 24 (.slice none 0 c) (.slice none 0 0)).run Tryz.prog u = .ok (.bool true) u := heq
    clear heq hr hl
    go_enter Tryz.func119, Tryz.ntmps119
    go_wp2_with fail
    go_ret
    exact ⟨none, 0, rfl, Nat.le_refl _, fun h => by simp [cellsI] at h, Q.refl _⟩
  | some ad =>
    have heq' : ∀ u, (binOp .eql 24 (.slice (some ad) l.length c) (.slice none 0 0)).run Tryz.prog u = .ok (.bool false) u := heq
    obtain ⟨i0, hi, hz0, hz1, hz2⟩ := info_parts intInfo
    have Hi := Lib.hid hi
    have Hz0 := Lib.hid hz0
    have Hz1 := Lib.hid hz1
    have Hz2 := Lib.hid hz2
    have HsR := Lib.hid (hr.keep ((Q.refl w).alloc (Obj.cells #[] 3)))
    have Ho := Lib.hid (own_empty (base := w.heap.size) (e := 3) (size := 1) (Nat.le_refl _) (heap_alloc_new w (Obj.cells #[] 3)))
    clear heq hi hz0 hz1 hz2 hr
    go_enter Tryz.func119, Tryz.ntmps119
    go_wp2_with (at_builtin; refine wpList_append_src _ rfl (.tmp 5) (.tmp 6) _ rfl w.heap.size 3 i0 _ 1 8 Tryz.underlying24 Hi.out Hz0.out Hz1.out Hz2.out rfl (by omega) (.slice (some ⟨w.heap.size, 0, none⟩) 0 0) 0 [] rfl Ho.out (some ad) l.length c (cellsI l) rfl (by rw [cellsI_len]; try omega) HsR.out.src (cellsI_one l) (by unfold maxLen; omega) (by omega) (by simp) ?_; intro v' w' own' gr' _)
    have q2 : Q w w' := ((Q.refl w).alloc (Obj.cells #[] 3)).grown gr' (by simp) (by simp [Value.ownBlock])
    rw [Nat.zero_add, List.nil_append] at own'
    have Ho' := Lib.hid own'
    clear own' gr'
    go_wp2_with fail
    go_ret
    obtain ⟨A2, c2, rfl, hle, hA2⟩ := own_o Ho'.out
    exact ⟨A2, c2, rfl, hle, hA2, q2⟩

set_option maxHeartbeats 1000000 in
theorem cloneP (A : Option Addr) (n c : Nat) (l : List Note) (w : World) (hn : n = l.length) (hr : Rds w w.heap.size A (cellsP l)) (hl : l.length ≤ 1000000) :
    Calls Tryz.prog 120 #[.slice A n c] w (CloneP l.length (cellsP l) w) := by
  subst hn
  have heq := fun u => Lib.run_eql_slice_nil (P := Tryz.prog) u 27 113 A l.length c 0 0 Tryz.underlying27
  cases A with
  | none =>
    have e : l = [] := by
      rcases Nat.eq_zero_or_pos l.length with h | h
      · exact List.eq_nil_of_length_eq_zero h
      · obtain ⟨_, e, _⟩ := hr (by rw [cellsP_len]; omega); cases e
    subst e
    have heq' : ∀ u, (binOp .eql 27 (.slice none 0 c) (.slice none 0 0)).run Tryz.prog u = .ok (.bool true) u := heq
    clear heq hr hl
    go_enter Tryz.func120, Tryz.ntmps120
    go_wp2_with fail
    go_ret
    exact ⟨none, 0, rfl, Nat.le_refl _, fun h => by simp [cellsP] at h, Q.refl _⟩
  | some ad =>
    have heq' : ∀ u, (binOp .eql 27 (.slice (some ad) l.length c) (.slice none 0 0)).run Tryz.prog u = .ok (.bool false) u := heq
    obtain ⟨i0, hi, hz0, hz1, hz2⟩ := info_parts noteInfo
    have Hi := Lib.hid hi
    have Hz0 := Lib.hid hz0
    have Hz1 := Lib.hid hz1
    have Hz2 := Lib.hid hz2
    have HsR := Lib.hid (hr.keep ((Q.refl w).alloc (Obj.cells #[] 113)))
    have Ho := Lib.hid (own_empty (base := w.heap.size) (e := 113) (size := 2) (Nat.le_refl _) (heap_alloc_new w (Obj.cells #[] 113)))
    clear heq hi hz0 hz1 hz2 hr
    go_enter Tryz.func120, Tryz.ntmps120
    go_wp2_with (at_builtin; refine wpList_append_src _ rfl (.tmp 5) (.tmp 6) _ rfl w.heap.size 113 i0 _ 2 16 Tryz.underlying27 Hi.out Hz0.out Hz1.out Hz2.out rfl (by omega) (.slice (some ⟨w.heap.size, 0, none⟩) 0 0) 0 [] rfl Ho.out (some ad) l.length c (cellsP l) rfl (by rw [cellsP_len]; try omega) HsR.out.src (cellsP_one l) (by unfold maxLen; omega) (by omega) (by simp) ?_; intro v' w' own' gr' _)
    have q2 : Q w w' := ((Q.refl w).alloc (Obj.cells #[] 113)).grown gr' (by simp) (by simp [Value.ownBlock])
    rw [Nat.zero_add, List.nil_append] at own'
    have Ho' := Lib.hid own'
    clear own' gr'
    go_wp2_with fail
    go_ret
    obtain ⟨A2, c2, rfl, hle, hA2⟩ := own_o Ho'.out
    exact ⟨A2, c2, rfl, hle, hA2, q2⟩

/-- what a call answers: cells, each row nil or in a block of its own -/
structure OutO (w w' : World) (c : Cells) (A : Option Addr) (k1 : Nat) (D : Option Addr) (k2 : Nat) (E : Option Addr) (k3 : Nat) : Prop where
  v : OwnO w' w.heap.size A (cellsI c.V)
  n : OwnO w' w.heap.size D (cellsP c.N)
  m : OwnO w' w.heap.size E (cellsI c.M)
  lv : c.V.length ≤ k1
  ln : c.N.length ≤ k2
  lm : c.M.length ≤ k3
  q : Q w w'
theorem OutO.rd {w w' : World} {c : Cells} {A : Option Addr} {k1 : Nat} {D : Option Addr} {k2 : Nat} {E : Option Addr} {k3 : Nat} (h : OutO w w' c A k1 D k2 E k3) : Rd w' c A k1 D k2 E k3 := ⟨OwnO.rds h.v, OwnO.rds h.n, OwnO.rds h.m, h.lv, h.ln, h.lm⟩
/-- stores into an older box -/
theorem OutO.far {w0 w w' w'' : World} {c : Cells} {A : Option Addr} {k1 : Nat} {D : Option Addr} {k2 : Nat} {E : Option Addr} {k3 B : Nat} (h : OutO w w' c A k1 D k2 E k3) (hq : Q w0 w) (hg : w'.grownBy w'' (some B)) (hB : B < w.heap.size) (hB0 : w0.heap.size ≤ B) : OutO w0 w'' c A k1 D k2 E k3 :=
  ⟨OwnO.base (OwnO.far h.v hg hB) hq.size, OwnO.base (OwnO.far h.n hg hB) hq.size, OwnO.base (OwnO.far h.m hg hB) hq.size, h.lv, h.ln, h.lm, grown_q hg (hq.trans h.q) hB0⟩
theorem OutO.of {w w' : World} {c : Cells} {g1 k1 g2 k2 g3 k3 : Nat} (h : Out w w' c g1 k1 g2 k2 g3 k3) : OutO w w' c (some ⟨g1, 0, none⟩) k1 (some ⟨g2, 0, none⟩) k2 (some ⟨g3, 0, none⟩) k3 :=
  ⟨fun _ => ⟨g1, rfl, h.o1, h.v⟩, fun _ => ⟨g2, rfl, h.o2, h.n⟩, fun _ => ⟨g3, rfl, h.o3, h.m⟩, h.lv, h.ln, h.lm, h.q⟩
def OPost (c : Cells) (w : World) (e : Ending) (w' : World) : Prop :=
  ∃ A k1 D k2 E k3, e = .returned (.agg #[.slice A c.V.length k1, .slice D c.N.length k2, .slice E c.M.length k3]) ∧ OutO w w' c A k1 D k2 E k3

set_option maxRecDepth 100000 in
set_option maxHeartbeats 2000000 in
theorem copyU (c : Cells) (A D E : Option Addr) (n1 k1 n2 k2 n3 k3 : Nat) (w : World) (h1 : n1 = c.V.length) (h2 : n2 = c.N.length) (h3 : n3 = c.M.length) (h : Rd w c A k1 D k2 E k3) (hf : Few c 1000000) :
    Calls Tryz.prog 87 #[.agg #[.slice A n1 k1, .slice D n2 k2, .slice E n3 k3]] w (OPost c w) := by
  subst h1 h2 h3
  obtain ⟨f1, f2, f3⟩ := hf
  obtain ⟨W0, hW0, q0, hz0, hB, hX⟩ := boxes w (Value.slice A c.V.length k1) (Value.slice D c.N.length k2) (Value.slice E c.M.length k3) 29
  have HB := Lib.hid hB
  have HX := Lib.hid hX
  have HR := Lib.hid (h.q q0)
  have HZ := Lib.hid hz0
  have HW := Lib.hid hW0
  clear h hB hX hz0 hW0
  go_enter Tryz.func87, Tryz.ntmps87
  go_upto_region 1 with fail
  rw [← HW.out]
  clear HW
  have HV : Hid (∀ W, Q W0 W → Calls Tryz.prog 119 #[.slice A c.V.length k1] W (CloneP c.V.length (cellsI c.V) W)) := fun W q => cloneI A _ k1 c.V W rfl (HR.out.v.q q) f1
  have HN : Hid (∀ W, Q W0 W → Calls Tryz.prog 120 #[.slice D c.N.length k2] W (CloneP c.N.length (cellsP c.N) W)) := fun W q => cloneP D _ k2 c.N W rfl (HR.out.n.q q) f2
  have HM : Hid (∀ W, Q W0 W → Calls Tryz.prog 119 #[.slice E c.M.length k3] W (CloneP c.M.length (cellsI c.M) W)) := fun W q => cloneI E _ k3 c.M W rfl (HR.out.m.q q) f3
  have c0 := HB.out.c0
  have c1 := HB.out.c1
  have c2 := HB.out.c2
  have hlt0 := HB.out.lt
  go_region_held3 (fun w' => w'.cell? ⟨w.heap.size, 0, none⟩ = some (.slice A c.V.length k1) ∧ w'.cell? ⟨w.heap.size, 1, none⟩ = some (.slice D c.N.length k2) ∧ w'.cell? ⟨w.heap.size, 2, none⟩ = some (.slice E c.M.length k3))
    (first
      | go_keep
      | exact ⟨(p3.cell (p := ⟨w.heap.size, 0, none⟩) hlt0).trans c0, (p3.cell (p := ⟨w.heap.size, 1, none⟩) hlt0).trans c1, (p3.cell (p := ⟨w.heap.size, 2, none⟩) hlt0).trans c2⟩
      | exact ⟨(p2.cell (p := ⟨w.heap.size, 0, none⟩) hlt0).trans c0, (p2.cell (p := ⟨w.heap.size, 1, none⟩) hlt0).trans c1, (p2.cell (p := ⟨w.heap.size, 2, none⟩) hlt0).trans c2⟩
      | exact ⟨(p1.cell (p := ⟨w.heap.size, 0, none⟩) hlt0).trans c0, (p1.cell (p := ⟨w.heap.size, 1, none⟩) hlt0).trans c1, (p1.cell (p := ⟨w.heap.size, 2, none⟩) hlt0).trans c2⟩
      | exact (((HB.out.q p3).far (g := w.heap.size + 1) (by omega) _).far (g := w.heap.size + 1) (by omega) _).far (g := w.heap.size + 1) (by omega) _ |>.three)
    (first
      | (go_at_call 119; (with_reducible refine (HV.out _ (Q.refl W0).drew).mono ?_); rintro e w1 ⟨A1, l1, rfl, hl1, own1, q1⟩; have Own1 := Lib.hid own1; clear own1; have p1 : Q W0 w1 := (Q.refl W0).drew.trans q1)
      | (go_at_call 120; (with_reducible refine (HN.out _ p1).mono ?_); rintro e w2 ⟨A2, l2, rfl, hl2, own2, q2⟩; have Own2 := Lib.hid own2; clear own2; have p2 : Q W0 w2 := p1.trans q2)
      | (go_at_call 119; (with_reducible refine (HM.out _ p2).mono ?_); rintro e w3 ⟨A3, l3, rfl, hl3, own3, q3⟩; have Own3 := Lib.hid own3; clear own3; have p3 : Q W0 w3 := p2.trans q3; have bx := HX.out.q p3; have y0 := bx.c0; have y1 := bx.c1; have y2 := bx.c2; have z0 := bx.f0; have z1 := bx.f1; have z2 := bx.f2))
  clear y0 y1 y2 z0 z1 z2 c0 c1 c2
  have bz := bx.all (.slice A1 c.V.length l1) (.slice A2 c.N.length l2) (.slice A3 c.M.length l3)
  have y0 := bz.c0
  have y1 := bz.c1
  have y2 := bz.c2
  have hgr := Lib.hid (set3_grown w3 (w.heap.size + 1) (.slice A1 c.V.length l1) (.slice A2 c.N.length l2) (.slice A3 c.M.length l3))
  have hz := HZ.out
  have z1 : W0.heap.size ≤ w1.heap.size := p1.size
  have z2 := p2.size
  go_wp2_with fail
  refine bodyPost_ret (v := .agg #[.slice A1 c.V.length l1, .slice A2 c.N.length l2, .slice A3 c.M.length l3]) (by simp [results, Tryz.f87, go_sem, y0, y1, y2]) rfl ⟨A1, l1, A2, l2, A3, l3, rfl, ?_⟩
  exact ⟨OwnO.base (OwnO.far ((OwnO.q Own1.out q2).q q3) hgr.out (by show w.heap.size + 1 < W0.heap.size; omega)) (by show w.heap.size ≤ W0.heap.size; omega), OwnO.base (OwnO.far (OwnO.q Own2.out q3) hgr.out (by omega)) (by omega), OwnO.base (OwnO.far Own3.out hgr.out (by omega)) (by omega), hl1, hl2, hl3, grown_q hgr.out (q0.trans p3) (by omega)⟩
end Go.Proofs.YtjmopbimleoidaaGreat.Uf

namespace Go.Proofs.YtjmopbimleoidaaGreat.Uf
open Go.RowKit Kit Tr

/-- two classes, joined -/
def joinC (R : List Int) (c : Cells) (a b : Nat) : Cells :=
  if fst c.V a = fst c.V b then c else if lessB R (fst c.V b) (fst c.V a) = true then setC c (fst c.V a) (fst c.V b : Int) else setC c (fst c.V b) (fst c.V a : Int)

set_option maxRecDepth 100000 in
set_option maxHeartbeats 2000000 in
theorem join_same (R : List Int) (c : Cells) (a b x y : Nat) (A D E F : Option Addr) (n1 k1 n2 k2 n3 k3 n4 k4 : Nat) (w : World) (h1 : n1 = c.V.length) (h2 : n2 = c.N.length) (h3 : n3 = c.M.length) (h4 : n4 = R.length) (h : Rd w c A k1 D k2 E k3) (hR : Rds w w.heap.size F (cellsI R)) (hf : Few c 1000000) (hC : Cl R c.V) (ha : a < c.V.length) (hb : b < c.V.length) (hx : fst c.V a = x) (hy : fst c.V b = y) (hl : lessB R y x = false) (he : x = y) :
    Calls Tryz.prog 41 #[.agg #[.slice A n1 k1, .slice D n2 k2, .slice E n3 k3], .slice F n4 k4, .int .i64 (a : Int), .int .i64 (b : Int)] w (OPost c w) := by
  subst h1 h2 h3 h4
  obtain ⟨W0, hW0, q0, hz0, hB, hX⟩ := boxes w (Value.slice A c.V.length k1) (Value.slice D c.N.length k2) (Value.slice E c.M.length k3) 29
  have HB := Lib.hid hB
  have HX := Lib.hid hX
  have HR := Lib.hid (h.q q0)
  have HRk := Lib.hid (hR.q q0)
  have HZ := Lib.hid hz0
  have HW := Lib.hid hW0
  have Hf := Lib.hid hf
  have hxl : x < c.V.length := by rw [← hx]; exact (hC.fst_in a ha).1
  have hyl : y < c.V.length := by rw [← hy]; exact (hC.fst_in b hb).1
  have Ha : Hid (∀ W, Q W0 W → Calls Tryz.prog 38 #[.agg #[.slice A c.V.length k1, .slice D c.N.length k2, .slice E c.M.length k3], .int .i64 (a : Int)] W fun e W' => e = .returned (.int .i64 (x : Int)) ∧ Q W W') := fun W q => by have := find_any R c a A D E _ k1 _ k2 _ k3 W rfl rfl rfl (HR.out.q q) hC ha hf.1; rwa [hx] at this
  have Hb : Hid (∀ W, Q W0 W → Calls Tryz.prog 38 #[.agg #[.slice A c.V.length k1, .slice D c.N.length k2, .slice E c.M.length k3], .int .i64 (b : Int)] W fun e W' => e = .returned (.int .i64 (y : Int)) ∧ Q W W') := fun W q => by have := find_any R c b A D E _ k1 _ k2 _ k3 W rfl rfl rfl (HR.out.q q) hC hb hf.1; rwa [hy] at this
  have HL : Hid (∀ W, Q W0 W → Calls Tryz.prog 40 #[.slice F R.length k4, .int .i64 (y : Int), .int .i64 (x : Int)] W fun e W' => e = .returned (.bool (lessB R y x)) ∧ Q W W') := fun W q => less_any R F _ k4 y x W rfl (HRk.out.q q)
  clear h hR hB hX hz0 hW0 hx hy ha hb hC hf
  go_enter Tryz.func41, Tryz.ntmps41
  go_upto_region 1 with fail
  rw [← HW.out]
  clear HW
  have c0 := HB.out.c0
  have c1 := HB.out.c1
  have c2 := HB.out.c2
  have hlt0 := HB.out.lt
  go_region_held3 (fun w' => w'.cell? ⟨w.heap.size, 0, none⟩ = some (.slice A c.V.length k1) ∧ w'.cell? ⟨w.heap.size, 1, none⟩ = some (.slice D c.N.length k2) ∧ w'.cell? ⟨w.heap.size, 2, none⟩ = some (.slice E c.M.length k3))
    (first
      | go_keep
      | exact ⟨(p2.cell (p := ⟨w.heap.size, 0, none⟩) hlt0).trans c0, (p2.cell (p := ⟨w.heap.size, 1, none⟩) hlt0).trans c1, (p2.cell (p := ⟨w.heap.size, 2, none⟩) hlt0).trans c2⟩
      | exact ⟨(p1.cell (p := ⟨w.heap.size, 0, none⟩) hlt0).trans c0, (p1.cell (p := ⟨w.heap.size, 1, none⟩) hlt0).trans c1, (p1.cell (p := ⟨w.heap.size, 2, none⟩) hlt0).trans c2⟩)
    (first
      | (go_at_call 38; (with_reducible refine (Ha.out _ (Q.refl W0).drew).mono ?_); rintro e w1 ⟨rfl, q1⟩; have p1 : Q W0 w1 := (Q.refl W0).drew.trans q1)
      | (go_at_call 38; (with_reducible refine (Hb.out _ p1).mono ?_); rintro e w2 ⟨rfl, q2⟩; have p2 : Q W0 w2 := p1.trans q2))
  clear c0 c1 c2 q1 q2 p1
  have c0 := (HB.out.q p2).c0
  have c1 := (HB.out.q p2).c1
  have c2 := (HB.out.q p2).c2
  have HL2 := Lib.hid (HL.out w2 p2)
  have Hp2 := Lib.hid p2
  clear HL p2 Ha Hb
  have HLB := Lib.hid hl
  subst he
  clear hl
  rw [HLB.out] at HL2
  go_wp2_with (first
    | (go_at_call 40; refine HL2.out.mono ?_; rintro e w3 ⟨rfl, q3⟩; have HB3 := Lib.hid ((HB.out.q Hp2.out).q q3); have HR3 := Lib.hid ((HR.out.q Hp2.out).q q3); have HX3 := Lib.hid ((HX.out.q Hp2.out).q q3); have Hq3 := Lib.hid (Hp2.out.trans q3); clear q3; have c0 := HB3.out.c0; have c1 := HB3.out.c1; have c2 := HB3.out.c2)
    | (go_at_call 87; refine (copyU c A D E _ k1 _ k2 _ k3 w3 rfl rfl rfl HR3.out Hf.out).mono ?_; rintro e w5 ⟨A5, l1, D5, l2, E5, l3, rfl, hO⟩; have HO := Lib.hid hO; have bx := HX3.out.q hO.q; have x0 := bx.c0; have x1 := bx.c1; have x2 := bx.c2; have u0 := bx.f0; have u1 := bx.f1; have u2 := bx.f2; clear hO))
  have bz := bx.all (.slice A5 c.V.length l1) (.slice D5 c.N.length l2) (.slice E5 c.M.length l3)
  have y0 := bz.c0
  have y1 := bz.c1
  have y2 := bz.c2
  have hz := HZ.out
  have hz3 : W0.heap.size ≤ w3.heap.size := Hq3.out.size
  have hgr := set3_grown w5 (w.heap.size + 1) (.slice A5 c.V.length l1) (.slice D5 c.N.length l2) (.slice E5 c.M.length l3)
  exact bodyPost_ret (v := .agg #[.slice A5 c.V.length l1, .slice D5 c.N.length l2, .slice E5 c.M.length l3]) (by simp [results, Tryz.f41, go_sem, y0, y1, y2]) rfl ⟨_, l1, _, l2, _, l3, rfl, HO.out.far (q0.trans Hq3.out) hgr (by omega) (by omega)⟩

set_option maxRecDepth 100000 in
set_option maxHeartbeats 2000000 in
theorem join_swap (R : List Int) (c : Cells) (a b x y : Nat) (A D E F : Option Addr) (n1 k1 n2 k2 n3 k3 n4 k4 : Nat) (w : World) (h1 : n1 = c.V.length) (h2 : n2 = c.N.length) (h3 : n3 = c.M.length) (h4 : n4 = R.length) (h : Rd w c A k1 D k2 E k3) (hR : Rds w w.heap.size F (cellsI R)) (hf : Few c 1000000) (hC : Cl R c.V) (ha : a < c.V.length) (hb : b < c.V.length) (hx : fst c.V a = x) (hy : fst c.V b = y) (hl : lessB R y x = true) (he : x ≠ y) :
    Calls Tryz.prog 41 #[.agg #[.slice A n1 k1, .slice D n2 k2, .slice E n3 k3], .slice F n4 k4, .int .i64 (a : Int), .int .i64 (b : Int)] w (OPost (setC c x (y : Int)) w) := by
  subst h1 h2 h3 h4
  obtain ⟨W0, hW0, q0, hz0, hB, hX⟩ := boxes w (Value.slice A c.V.length k1) (Value.slice D c.N.length k2) (Value.slice E c.M.length k3) 29
  have HB := Lib.hid hB
  have HX := Lib.hid hX
  have HR := Lib.hid (h.q q0)
  have HRk := Lib.hid (hR.q q0)
  have HZ := Lib.hid hz0
  have HW := Lib.hid hW0
  have Hf := Lib.hid hf
  have hxl : x < c.V.length := by rw [← hx]; exact (hC.fst_in a ha).1
  have hyl : y < c.V.length := by rw [← hy]; exact (hC.fst_in b hb).1
  have Ha : Hid (∀ W, Q W0 W → Calls Tryz.prog 38 #[.agg #[.slice A c.V.length k1, .slice D c.N.length k2, .slice E c.M.length k3], .int .i64 (a : Int)] W fun e W' => e = .returned (.int .i64 (x : Int)) ∧ Q W W') := fun W q => by have := find_any R c a A D E _ k1 _ k2 _ k3 W rfl rfl rfl (HR.out.q q) hC ha hf.1; rwa [hx] at this
  have Hb : Hid (∀ W, Q W0 W → Calls Tryz.prog 38 #[.agg #[.slice A c.V.length k1, .slice D c.N.length k2, .slice E c.M.length k3], .int .i64 (b : Int)] W fun e W' => e = .returned (.int .i64 (y : Int)) ∧ Q W W') := fun W q => by have := find_any R c b A D E _ k1 _ k2 _ k3 W rfl rfl rfl (HR.out.q q) hC hb hf.1; rwa [hy] at this
  have HL : Hid (∀ W, Q W0 W → Calls Tryz.prog 40 #[.slice F R.length k4, .int .i64 (y : Int), .int .i64 (x : Int)] W fun e W' => e = .returned (.bool (lessB R y x)) ∧ Q W W') := fun W q => less_any R F _ k4 y x W rfl (HRk.out.q q)
  clear h hR hB hX hz0 hW0 hx hy ha hb hC hf
  go_enter Tryz.func41, Tryz.ntmps41
  go_upto_region 1 with fail
  rw [← HW.out]
  clear HW
  have c0 := HB.out.c0
  have c1 := HB.out.c1
  have c2 := HB.out.c2
  have hlt0 := HB.out.lt
  go_region_held3 (fun w' => w'.cell? ⟨w.heap.size, 0, none⟩ = some (.slice A c.V.length k1) ∧ w'.cell? ⟨w.heap.size, 1, none⟩ = some (.slice D c.N.length k2) ∧ w'.cell? ⟨w.heap.size, 2, none⟩ = some (.slice E c.M.length k3))
    (first
      | go_keep
      | exact ⟨(p2.cell (p := ⟨w.heap.size, 0, none⟩) hlt0).trans c0, (p2.cell (p := ⟨w.heap.size, 1, none⟩) hlt0).trans c1, (p2.cell (p := ⟨w.heap.size, 2, none⟩) hlt0).trans c2⟩
      | exact ⟨(p1.cell (p := ⟨w.heap.size, 0, none⟩) hlt0).trans c0, (p1.cell (p := ⟨w.heap.size, 1, none⟩) hlt0).trans c1, (p1.cell (p := ⟨w.heap.size, 2, none⟩) hlt0).trans c2⟩)
    (first
      | (go_at_call 38; (with_reducible refine (Ha.out _ (Q.refl W0).drew).mono ?_); rintro e w1 ⟨rfl, q1⟩; have p1 : Q W0 w1 := (Q.refl W0).drew.trans q1)
      | (go_at_call 38; (with_reducible refine (Hb.out _ p1).mono ?_); rintro e w2 ⟨rfl, q2⟩; have p2 : Q W0 w2 := p1.trans q2))
  clear c0 c1 c2 q1 q2 p1
  have c0 := (HB.out.q p2).c0
  have c1 := (HB.out.q p2).c1
  have c2 := (HB.out.q p2).c2
  have HL2 := Lib.hid (HL.out w2 p2)
  have Hp2 := Lib.hid p2
  clear HL p2 Ha Hb
  have HLB := Lib.hid hl
  have hdx : (decide (0 ≤ (x : Int)) && decide ((x : Int) < (c.V.length : Int))) = true := by rw [decide_eq_true (show (0 : Int) ≤ (x : Int) by omega), decide_eq_true (show (x : Int) < (c.V.length : Int) by omega)]; rfl
  have hdy : (decide (0 ≤ (y : Int)) && decide ((y : Int) < (c.V.length : Int))) = true := by rw [decide_eq_true (show (0 : Int) ≤ (y : Int) by omega), decide_eq_true (show (y : Int) < (c.V.length : Int) by omega)]; rfl
  have e1 : ((x : Int) == (y : Int)) = false := beq_eq_false_iff_ne.2 (by omega)
  have e2 : (x == y) = false := beq_eq_false_iff_ne.2 he
  have e3 : ((y : Int) == (x : Int)) = false := beq_eq_false_iff_ne.2 (by omega)
  have e4 : (y == x) = false := beq_eq_false_iff_ne.2 (fun e => he e.symm)
  clear hl he
  rw [HLB.out] at HL2
  go_wp2_with (first
    | (go_at_call 40; refine HL2.out.mono ?_; rintro e w3 ⟨rfl, q3⟩; have HB3 := Lib.hid ((HB.out.q Hp2.out).q q3); have HR3 := Lib.hid ((HR.out.q Hp2.out).q q3); have HX3 := Lib.hid ((HX.out.q Hp2.out).q q3); have Hq3 := Lib.hid (Hp2.out.trans q3); clear q3; have c0 := HB3.out.c0; have c1 := HB3.out.c1; have c2 := HB3.out.c2)
    | (go_at_call 86; refine (placeU _ _ _).mono ?_; rintro e w4 ⟨rfl, rfl⟩; first | rw [hdx] | rw [hdy])
    | (go_at_call 88; refine (set_some c x (y : Int) A D E _ k1 _ k2 _ k3 w3 rfl rfl rfl HR3.out Hf.out hxl).mono ?_; rintro e w5 ⟨g1, l1, g2, l2, g3, l3, rfl, hO⟩; have HO := Lib.hid hO; have qb := (Q.refl w5).alloc (Obj.cells #[(.slice (some ⟨g1, 0, none⟩) (setC c x (y : Int)).V.length l1), (.slice (some ⟨g2, 0, none⟩) (setC c x (y : Int)).N.length l2), (.slice (some ⟨g3, 0, none⟩) (setC c x (y : Int)).M.length l3)] 29); have bx := (HX3.out.q hO.q).q qb; have x0 := bx.c0; have x1 := bx.c1; have x2 := bx.c2; have u0 := bx.f0; have u1 := bx.f1; have u2 := bx.f2; clear hO))
  have bz := bx.all (.slice (some ⟨g1, 0, none⟩) (setC c x (y : Int)).V.length l1) (.slice (some ⟨g2, 0, none⟩) (setC c x (y : Int)).N.length l2) (.slice (some ⟨g3, 0, none⟩) (setC c x (y : Int)).M.length l3)
  have y0 := bz.c0
  have y1 := bz.c1
  have y2 := bz.c2
  have hz := HZ.out
  have hz3 : W0.heap.size ≤ w3.heap.size := Hq3.out.size
  have o1 := HO.out.o1
  have o2 := HO.out.o2
  have o3 := HO.out.o3
  have O4 := out_end ((HO.out.from (q0.trans Hq3.out)).more qb) (by omega) (by omega) (by omega) (.slice (some ⟨g1, 0, none⟩) (setC c x (y : Int)).V.length l1) (.slice (some ⟨g2, 0, none⟩) (setC c x (y : Int)).N.length l2) (.slice (some ⟨g3, 0, none⟩) (setC c x (y : Int)).M.length l3)
  exact bodyPost_ret (v := .agg #[.slice (some ⟨g1, 0, none⟩) (setC c x (y : Int)).V.length l1, .slice (some ⟨g2, 0, none⟩) (setC c x (y : Int)).N.length l2, .slice (some ⟨g3, 0, none⟩) (setC c x (y : Int)).M.length l3]) (by simp [results, Tryz.f41, go_sem, y0, y1, y2]) rfl ⟨_, l1, _, l2, _, l3, rfl, OutO.of O4⟩

set_option maxRecDepth 100000 in
set_option maxHeartbeats 2000000 in
theorem join_put (R : List Int) (c : Cells) (a b x y : Nat) (A D E F : Option Addr) (n1 k1 n2 k2 n3 k3 n4 k4 : Nat) (w : World) (h1 : n1 = c.V.length) (h2 : n2 = c.N.length) (h3 : n3 = c.M.length) (h4 : n4 = R.length) (h : Rd w c A k1 D k2 E k3) (hR : Rds w w.heap.size F (cellsI R)) (hf : Few c 1000000) (hC : Cl R c.V) (ha : a < c.V.length) (hb : b < c.V.length) (hx : fst c.V a = x) (hy : fst c.V b = y) (hl : lessB R y x = false) (he : x ≠ y) :
    Calls Tryz.prog 41 #[.agg #[.slice A n1 k1, .slice D n2 k2, .slice E n3 k3], .slice F n4 k4, .int .i64 (a : Int), .int .i64 (b : Int)] w (OPost (setC c y (x : Int)) w) := by
  subst h1 h2 h3 h4
  obtain ⟨W0, hW0, q0, hz0, hB, hX⟩ := boxes w (Value.slice A c.V.length k1) (Value.slice D c.N.length k2) (Value.slice E c.M.length k3) 29
  have HB := Lib.hid hB
  have HX := Lib.hid hX
  have HR := Lib.hid (h.q q0)
  have HRk := Lib.hid (hR.q q0)
  have HZ := Lib.hid hz0
  have HW := Lib.hid hW0
  have Hf := Lib.hid hf
  have hxl : x < c.V.length := by rw [← hx]; exact (hC.fst_in a ha).1
  have hyl : y < c.V.length := by rw [← hy]; exact (hC.fst_in b hb).1
  have Ha : Hid (∀ W, Q W0 W → Calls Tryz.prog 38 #[.agg #[.slice A c.V.length k1, .slice D c.N.length k2, .slice E c.M.length k3], .int .i64 (a : Int)] W fun e W' => e = .returned (.int .i64 (x : Int)) ∧ Q W W') := fun W q => by have := find_any R c a A D E _ k1 _ k2 _ k3 W rfl rfl rfl (HR.out.q q) hC ha hf.1; rwa [hx] at this
  have Hb : Hid (∀ W, Q W0 W → Calls Tryz.prog 38 #[.agg #[.slice A c.V.length k1, .slice D c.N.length k2, .slice E c.M.length k3], .int .i64 (b : Int)] W fun e W' => e = .returned (.int .i64 (y : Int)) ∧ Q W W') := fun W q => by have := find_any R c b A D E _ k1 _ k2 _ k3 W rfl rfl rfl (HR.out.q q) hC hb hf.1; rwa [hy] at this
  have HL : Hid (∀ W, Q W0 W → Calls Tryz.prog 40 #[.slice F R.length k4, .int .i64 (y : Int), .int .i64 (x : Int)] W fun e W' => e = .returned (.bool (lessB R y x)) ∧ Q W W') := fun W q => less_any R F _ k4 y x W rfl (HRk.out.q q)
  clear h hR hB hX hz0 hW0 hx hy ha hb hC hf
  go_enter Tryz.func41, Tryz.ntmps41
  go_upto_region 1 with fail
  rw [← HW.out]
  clear HW
  have c0 := HB.out.c0
  have c1 := HB.out.c1
  have c2 := HB.out.c2
  have hlt0 := HB.out.lt
  go_region_held3 (fun w' => w'.cell? ⟨w.heap.size, 0, none⟩ = some (.slice A c.V.length k1) ∧ w'.cell? ⟨w.heap.size, 1, none⟩ = some (.slice D c.N.length k2) ∧ w'.cell? ⟨w.heap.size, 2, none⟩ = some (.slice E c.M.length k3))
    (first
      | go_keep
      | exact ⟨(p2.cell (p := ⟨w.heap.size, 0, none⟩) hlt0).trans c0, (p2.cell (p := ⟨w.heap.size, 1, none⟩) hlt0).trans c1, (p2.cell (p := ⟨w.heap.size, 2, none⟩) hlt0).trans c2⟩
      | exact ⟨(p1.cell (p := ⟨w.heap.size, 0, none⟩) hlt0).trans c0, (p1.cell (p := ⟨w.heap.size, 1, none⟩) hlt0).trans c1, (p1.cell (p := ⟨w.heap.size, 2, none⟩) hlt0).trans c2⟩)
    (first
      | (go_at_call 38; (with_reducible refine (Ha.out _ (Q.refl W0).drew).mono ?_); rintro e w1 ⟨rfl, q1⟩; have p1 : Q W0 w1 := (Q.refl W0).drew.trans q1)
      | (go_at_call 38; (with_reducible refine (Hb.out _ p1).mono ?_); rintro e w2 ⟨rfl, q2⟩; have p2 : Q W0 w2 := p1.trans q2))
  clear c0 c1 c2 q1 q2 p1
  have c0 := (HB.out.q p2).c0
  have c1 := (HB.out.q p2).c1
  have c2 := (HB.out.q p2).c2
  have HL2 := Lib.hid (HL.out w2 p2)
  have Hp2 := Lib.hid p2
  clear HL p2 Ha Hb
  have HLB := Lib.hid hl
  have hdx : (decide (0 ≤ (x : Int)) && decide ((x : Int) < (c.V.length : Int))) = true := by rw [decide_eq_true (show (0 : Int) ≤ (x : Int) by omega), decide_eq_true (show (x : Int) < (c.V.length : Int) by omega)]; rfl
  have hdy : (decide (0 ≤ (y : Int)) && decide ((y : Int) < (c.V.length : Int))) = true := by rw [decide_eq_true (show (0 : Int) ≤ (y : Int) by omega), decide_eq_true (show (y : Int) < (c.V.length : Int) by omega)]; rfl
  have e1 : ((x : Int) == (y : Int)) = false := beq_eq_false_iff_ne.2 (by omega)
  have e2 : (x == y) = false := beq_eq_false_iff_ne.2 he
  have e3 : ((y : Int) == (x : Int)) = false := beq_eq_false_iff_ne.2 (by omega)
  have e4 : (y == x) = false := beq_eq_false_iff_ne.2 (fun e => he e.symm)
  clear hl he
  rw [HLB.out] at HL2
  go_wp2_with (first
    | (go_at_call 40; refine HL2.out.mono ?_; rintro e w3 ⟨rfl, q3⟩; have HB3 := Lib.hid ((HB.out.q Hp2.out).q q3); have HR3 := Lib.hid ((HR.out.q Hp2.out).q q3); have HX3 := Lib.hid ((HX.out.q Hp2.out).q q3); have Hq3 := Lib.hid (Hp2.out.trans q3); clear q3; have c0 := HB3.out.c0; have c1 := HB3.out.c1; have c2 := HB3.out.c2)
    | (go_at_call 86; refine (placeU _ _ _).mono ?_; rintro e w4 ⟨rfl, rfl⟩; first | rw [hdx] | rw [hdy])
    | (go_at_call 88; refine (set_some c y (x : Int) A D E _ k1 _ k2 _ k3 w3 rfl rfl rfl HR3.out Hf.out hyl).mono ?_; rintro e w5 ⟨g1, l1, g2, l2, g3, l3, rfl, hO⟩; have HO := Lib.hid hO; have qb := (Q.refl w5).alloc (Obj.cells #[(.slice (some ⟨g1, 0, none⟩) (setC c y (x : Int)).V.length l1), (.slice (some ⟨g2, 0, none⟩) (setC c y (x : Int)).N.length l2), (.slice (some ⟨g3, 0, none⟩) (setC c y (x : Int)).M.length l3)] 29); have bx := (HX3.out.q hO.q).q qb; have x0 := bx.c0; have x1 := bx.c1; have x2 := bx.c2; have u0 := bx.f0; have u1 := bx.f1; have u2 := bx.f2; clear hO))
  have bz := bx.all (.slice (some ⟨g1, 0, none⟩) (setC c y (x : Int)).V.length l1) (.slice (some ⟨g2, 0, none⟩) (setC c y (x : Int)).N.length l2) (.slice (some ⟨g3, 0, none⟩) (setC c y (x : Int)).M.length l3)
  have y0 := bz.c0
  have y1 := bz.c1
  have y2 := bz.c2
  have hz := HZ.out
  have hz3 : W0.heap.size ≤ w3.heap.size := Hq3.out.size
  have o1 := HO.out.o1
  have o2 := HO.out.o2
  have o3 := HO.out.o3
  have O4 := out_end ((HO.out.from (q0.trans Hq3.out)).more qb) (by omega) (by omega) (by omega) (.slice (some ⟨g1, 0, none⟩) (setC c y (x : Int)).V.length l1) (.slice (some ⟨g2, 0, none⟩) (setC c y (x : Int)).N.length l2) (.slice (some ⟨g3, 0, none⟩) (setC c y (x : Int)).M.length l3)
  exact bodyPost_ret (v := .agg #[.slice (some ⟨g1, 0, none⟩) (setC c y (x : Int)).V.length l1, .slice (some ⟨g2, 0, none⟩) (setC c y (x : Int)).N.length l2, .slice (some ⟨g3, 0, none⟩) (setC c y (x : Int)).M.length l3]) (by simp [results, Tryz.f41, go_sem, y0, y1, y2]) rfl ⟨_, l1, _, l2, _, l3, rfl, OutO.of O4⟩

theorem join_any (R : List Int) (c : Cells) (a b : Nat) (A D E F : Option Addr) (n1 k1 n2 k2 n3 k3 n4 k4 : Nat) (w : World) (h1 : n1 = c.V.length) (h2 : n2 = c.N.length) (h3 : n3 = c.M.length) (h4 : n4 = R.length) (h : Rd w c A k1 D k2 E k3) (hR : Rds w w.heap.size F (cellsI R)) (hf : Few c 1000000) (hC : Cl R c.V) (ha : a < c.V.length) (hb : b < c.V.length) :
    Calls Tryz.prog 41 #[.agg #[.slice A n1 k1, .slice D n2 k2, .slice E n3 k3], .slice F n4 k4, .int .i64 (a : Int), .int .i64 (b : Int)] w (OPost (joinC R c a b) w) := by
  unfold joinC
  by_cases e : fst c.V a = fst c.V b
  · rw [if_pos e]
    exact join_same R c a b _ _ A D E F n1 k1 n2 k2 n3 k3 n4 k4 w h1 h2 h3 h4 h hR hf hC ha hb rfl rfl (by rw [e, less_self]) e
  · rw [if_neg e]
    by_cases hl : lessB R (fst c.V b) (fst c.V a) = true
    · rw [if_pos hl]
      exact join_swap R c a b _ _ A D E F n1 k1 n2 k2 n3 k3 n4 k4 w h1 h2 h3 h4 h hR hf hC ha hb rfl rfl hl e
    · rw [if_neg hl]
      exact join_put R c a b _ _ A D E F n1 k1 n2 k2 n3 k3 n4 k4 w h1 h2 h3 h4 h hR hf hC ha hb rfl rfl (by simpa using hl) e
end Go.Proofs.YtjmopbimleoidaaGreat.Uf

namespace Go.Proofs.YtjmopbimleoidaaGreat.Ig
open Go.RowKit Kit Tr Uf
open Go.Proofs.YtjmopbimleoidaaGreat.Hs (Keys Ints BoxT)
set_option maxRecDepth 100000 in
set_option maxHeartbeats 1000000 in
theorem addR_any (c : Cells) (A D E : Option Addr) (n1 k1 n2 k2 n3 k3 : Nat) (w : World) (h1 : n1 = c.V.length) (h2 : n2 = c.N.length) (h3 : n3 = c.M.length) (h : Rd w c A k1 D k2 E k3) (hf : Few c 1000000) :
    Calls Tryz.prog 128 #[.agg #[.slice A n1 k1, .slice D n2 k2, .slice E n3 k3]] w (OutPostR (growC c (c.V.length : Int)) w) := by
  subst h1 h2 h3
  obtain ⟨W0, hW0, q0, hz0, hB, hX⟩ := boxes w (Value.slice A c.V.length k1) (Value.slice D c.N.length k2) (Value.slice E c.M.length k3) 29
  have HB := Lib.hid hB
  have HX := Lib.hid hX
  have HR := Lib.hid (h.q q0)
  have HZ := Lib.hid hz0
  have HW := Lib.hid hW0
  clear h hB hX hz0 hW0
  go_enter Tryz.func128, Tryz.ntmps128
  go_upto_region 1 with fail
  rw [← HW.out]
  clear HW
  have C := Lib.hid (growR_any c (c.V.length : Int) A D E _ k1 _ k2 _ k3 W0 rfl rfl rfl HR.out hf)
  have c0 := HB.out.c0
  have c1 := HB.out.c1
  have c2 := HB.out.c2
  go_wp2_with (go_at_call 157; refine C.out.mono ?_; rintro e w1 ⟨g1, l1, g2, l2, g3, l3, rfl, hO⟩; have HO := Lib.hid hO; have bx := HX.out.q hO.o.q; have x0 := bx.c0; have x1 := bx.c1; have x2 := bx.c2; have u0 := bx.f0; have u1 := bx.f1; have u2 := bx.f2; clear hO)
  have bz := bx.all (.slice (some ⟨g1, 0, none⟩) (growC c (c.V.length : Int)).V.length l1) (.slice (some ⟨g2, 0, none⟩) (growC c (c.V.length : Int)).N.length l2) (.slice (some ⟨g3, 0, none⟩) (growC c (c.V.length : Int)).M.length l3)
  have y0 := bz.c0
  have y1 := bz.c1
  have y2 := bz.c2
  have hz := HZ.out
  have o1 := HO.out.o.o1
  have o2 := HO.out.o.o2
  have o3 := HO.out.o.o3
  have O4 := (HO.out.from q0).far (set3_grown w1 (w.heap.size + 1) (.slice (some ⟨g1, 0, none⟩) (growC c (c.V.length : Int)).V.length l1) (.slice (some ⟨g2, 0, none⟩) (growC c (c.V.length : Int)).N.length l2) (.slice (some ⟨g3, 0, none⟩) (growC c (c.V.length : Int)).M.length l3)) (by omega) (by omega) (by omega) (by omega)
  exact bodyPost_ret (v := .agg #[.slice (some ⟨g1, 0, none⟩) (growC c (c.V.length : Int)).V.length l1, .slice (some ⟨g2, 0, none⟩) (growC c (c.V.length : Int)).N.length l2, .slice (some ⟨g3, 0, none⟩) (growC c (c.V.length : Int)).M.length l3]) (by simp [results, Tryz.f128, go_sem, y0, y1, y2]) rfl ⟨_, l1, _, l2, _, l3, rfl, O4⟩

/-- cells with so many more, each a class -/
def moreC (c : Cells) : Nat → Cells
  | 0 => c
  | k + 1 => growC (moreC c k) ((c.V.length + k : Nat) : Int)
theorem moreC_len (c : Cells) (k : Nat) : (moreC c k).V.length = c.V.length + k ∧ (moreC c k).N.length = c.N.length + k ∧ (moreC c k).M = c.M := by
  induction k with
  | zero => exact ⟨rfl, rfl, rfl⟩
  | succ k ih =>
    obtain ⟨a, b, d⟩ := ih
    exact ⟨by simp [moreC, growC, a]; omega, by simp [moreC, growC, b]; omega, d⟩
theorem moreC_next (c : Cells) (k : Nat) : cellsI (moreC c (k + 1)).V = cellsI (moreC c k).V ++ [.int .i64 ((c.V.length + k : Nat) : Int)] ∧ cellsP (moreC c (k + 1)).N = cellsP (moreC c k).N ++ [.int .i64 (-1), .int .i64 0] :=
  ⟨by show cellsI (_ ++ _) = _; rw [cellsI_append]; rfl, by show cellsP (_ ++ _) = _; rw [cellsP_append]; rfl⟩

theorem row_some {w : World} {base size n : Nat} {e : TypeId} {v : Value} {xs : List Value} (h : w.ownsRow base e size v n xs) (h0 : 0 < n) : ∃ g c, v = .slice (some ⟨g, 0, none⟩) n c ∧ base ≤ g ∧ g < w.heap.size ∧ n ≤ c := by
  rcases h.2 with ⟨_, e⟩ | ⟨g, cap, cur, rfl, hb, hg, hc, _⟩
  · omega
  · exact ⟨g, cap, rfl, hb, (Array.getElem?_eq_some_iff.1 hg).1, hc⟩
/-- cells in the making, in a box; a note in the box behind -/
structure GrowS (w wr : World) (B : Nat) (L1 L2 L3 : List Value) (n1 n2 n3 g1 k1 g2 k2 g3 k3 : Nat) : Prop where
  box : Box3 wr B (.slice (some ⟨g1, 0, none⟩) n1 k1) (.slice (some ⟨g2, 0, none⟩) n2 k2) (.slice (some ⟨g3, 0, none⟩) n3 k3)
  note : OwnC wr (B + 1) [.int .i64 (-1), .int .i64 0]
  rv : wr.ownsRow (w.heap.size + 2) 3 1 (.slice (some ⟨g1, 0, none⟩) n1 k1) n1 L1
  rn : wr.ownsRow (w.heap.size + 2) 113 2 (.slice (some ⟨g2, 0, none⟩) n2 k2) n2 L2
  m : OwnC wr g3 L3
  d1 : g1 ≠ B ∧ g1 ≠ B + 1 ∧ g1 ≠ g2 ∧ g1 ≠ g3
  d2 : g2 ≠ B ∧ g2 ≠ B + 1 ∧ g2 ≠ g3
  d3 : g3 ≠ B ∧ g3 ≠ B + 1
  lo : w.heap.size + 2 ≤ B ∧ w.heap.size + 2 ≤ g3
  q : Q w wr
theorem GrowS.q' {w wr W : World} {B : Nat} {L1 L2 L3 : List Value} {n1 n2 n3 g1 k1 g2 k2 g3 k3 : Nat} (h : GrowS w wr B L1 L2 L3 n1 n2 n3 g1 k1 g2 k2 g3 k3) (q : Q wr W) : GrowS w W B L1 L2 L3 n1 n2 n3 g1 k1 g2 k2 g3 k3 :=
  ⟨h.box.q q, h.note.q q, row_kept h.rv q (Nat.le_refl _), row_kept h.rn q (Nat.le_refl _), h.m.q q, h.d1, h.d2, h.d3, h.lo, h.q.trans q⟩
/-- a number more, and its place in the box -/
theorem GrowS.putV {w wr W : World} {B : Nat} {L1 L2 L3 L : List Value} {n1 n2 n3 g1 k1 g2 k2 g3 k3 n g k : Nat} (h : GrowS w wr B L1 L2 L3 n1 n2 n3 g1 k1 g2 k2 g3 k3) (hg : wr.grownBy W (some g1)) (ho : W.ownsRow (w.heap.size + 2) 3 1 (.slice (some ⟨g, 0, none⟩) n k) n L) (he : g = g1 ∨ g = wr.heap.size) :
    GrowS w (W.setCell ⟨B, 0, none⟩ (.slice (some ⟨g, 0, none⟩) n k)) B L L2 L3 n n2 n3 g k g2 k2 g3 k3 := by
  obtain ⟨a, b, c, d⟩ := h.d1
  obtain ⟨a2, b2, c2⟩ := h.d2
  obtain ⟨a3, b3⟩ := h.d3
  have hBl := h.box.lt
  have hNl := h.note.1
  have hml := h.m.1
  have h2l := (h.rn.lt g2 rfl).2
  have hs := setCell_grown W B 0 (.slice (some ⟨g, 0, none⟩) n k)
  have lo1 := (h.rv.lt g1 rfl).1
  have lo2 := h.lo
  refine ⟨(h.box.grown hg a).set0 _, (h.note.grown hg (by intro e; injection e with e; exact b e)).grown hs (by intro e; injection e with e; omega), row_far ho hs (by omega), row_far (row_far h.rn hg c) hs (by omega), (h.m.grown hg (by intro e; injection e with e; exact d e)).grown hs (by intro e; injection e with e; omega), by omega, h.d2, h.d3, h.lo, ?_⟩
  exact grown_q hs (grown_q hg h.q (by omega)) (by omega)
theorem GrowS.putN {w wr W : World} {B : Nat} {L1 L2 L3 L : List Value} {n1 n2 n3 g1 k1 g2 k2 g3 k3 n g k : Nat} (h : GrowS w wr B L1 L2 L3 n1 n2 n3 g1 k1 g2 k2 g3 k3) (hg : wr.grownBy W (some g2)) (ho : W.ownsRow (w.heap.size + 2) 113 2 (.slice (some ⟨g, 0, none⟩) n k) n L) (he : g = g2 ∨ g = wr.heap.size) :
    GrowS w (W.setCell ⟨B, 1, none⟩ (.slice (some ⟨g, 0, none⟩) n k)) B L1 L L3 n1 n n3 g1 k1 g k g3 k3 := by
  obtain ⟨a, b, c, d⟩ := h.d1
  obtain ⟨a2, b2, c2⟩ := h.d2
  obtain ⟨a3, b3⟩ := h.d3
  have hBl := h.box.lt
  have hNl := h.note.1
  have hml := h.m.1
  have h1l := (h.rv.lt g1 rfl).2
  have hs := setCell_grown W B 1 (.slice (some ⟨g, 0, none⟩) n k)
  have lo1 := (h.rn.lt g2 rfl).1
  have lo2 := h.lo
  refine ⟨(h.box.grown hg a2).set1 _, (h.note.grown hg (by intro e; injection e with e; exact b2 e)).grown hs (by intro e; injection e with e; omega), row_far (row_far h.rv hg (by omega)) hs (by omega), row_far ho hs (by omega), (h.m.grown hg (by intro e; injection e with e; exact c2 e)).grown hs (by intro e; injection e with e; omega), by omega, by omega, h.d3, h.lo, ?_⟩
  exact grown_q hs (grown_q hg h.q (by omega)) (by omega)
def lenAt (w : World) (B : Nat) : Nat := match w.cell? ⟨B, 0, none⟩ with
  | some (.slice _ n _) => n
  | _ => 0
theorem lenAt_box {w : World} {B n k : Nat} {A : Option Addr} (h : w.cell? ⟨B, 0, none⟩ = some (.slice A n k)) : lenAt w B = n := by unfold lenAt; rw [h]

set_option maxRecDepth 100000 in
set_option maxHeartbeats 4000000 in
theorem grown12 (c : Cells) (n : Nat) (A D E : Option Addr) (n1 k1 n2 k2 n3 k3 : Nat) (w : World) (h1 : n1 = c.V.length) (h2 : n2 = c.N.length) (h3 : n3 = c.M.length) (h : Rd w c A k1 D k2 E k3) (hf : Few c 2000) (hn : c.V.length < n) (hn2 : n ≤ 4000) :
    Calls Tryz.prog 99 #[.agg #[.slice A n1 k1, .slice D n2 k2, .slice E n3 k3], .int .i64 (n : Int)] w (OPost (moreC c (n - c.V.length)) w) := by
  subst h1 h2 h3
  obtain ⟨W0, hW0, q0, hz0, hB, hX⟩ := boxes w (Value.slice A c.V.length k1) (Value.slice D c.N.length k2) (Value.slice E c.M.length k3) 29
  have HB := Lib.hid hB
  have HX := Lib.hid hX
  have HR := Lib.hid (h.q q0)
  have HZ := Lib.hid hz0
  have HW := Lib.hid hW0
  have Hf := Lib.hid hf
  obtain ⟨j0, hi, hy0, hy1, hy2⟩ := info_parts Tr.intInfo
  have Hi := Lib.hid hi
  have Hy0 := Lib.hid hy0
  have Hy1 := Lib.hid hy1
  have Hy2 := Lib.hid hy2
  clear hi hy0 hy1 hy2
  obtain ⟨j1, hi, hy0, hy1, hy2⟩ := info_parts Tr.noteInfo
  have Gi := Lib.hid hi
  have Gy0 := Lib.hid hy0
  have Gy1 := Lib.hid hy1
  have Gy2 := Lib.hid hy2
  clear hi hy0 hy1 hy2 h hB hX hz0 hW0
  go_enter Tryz.func99, Tryz.ntmps99
  go_upto_region 1 with fail
  rw [← HW.out]
  clear HW
  have C := Lib.hid (addR_any c A D E _ k1 _ k2 _ k3 W0 rfl rfl rfl HR.out ⟨by have := hf.1; omega, by have := hf.2.1; omega, by have := hf.2.2; omega⟩)
  have c0 := HB.out.c0
  have c1 := HB.out.c1
  have c2 := HB.out.c2
  clear hf
  go_upto_region 2 with (go_at_call 128; refine C.out.mono ?_; rintro e w1 ⟨g1, l1, g2, l2, g3, l3, rfl, hO⟩; have HO := Lib.hid hO; clear hO)
  clear c0 c1 c2
  have q2 := (Q.refl w1).alloc (Obj.cells #[.slice (some ⟨g1, 0, none⟩) (growC c (c.V.length : Int)).V.length l1, .slice (some ⟨g2, 0, none⟩) (growC c (c.V.length : Int)).N.length l2, .slice (some ⟨g3, 0, none⟩) (growC c (c.V.length : Int)).M.length l3] 29)
  have HO2 := Lib.hid (HO.out.more q2)
  have HB2 := Lib.hid (Box3.new w1 (.slice (some ⟨g1, 0, none⟩) (growC c (c.V.length : Int)).V.length l1) (.slice (some ⟨g2, 0, none⟩) (growC c (c.V.length : Int)).N.length l2) (.slice (some ⟨g3, 0, none⟩) (growC c (c.V.length : Int)).M.length l3) 29)
  have HXw := Lib.hid ((HX.out.q HO.out.o.q).q q2)
  have HQ0 := Lib.hid (q0.trans (HO.out.o.q.trans q2))
  have s1 := (HO.out.rv.lt g1 rfl)
  have s2 := (HO.out.rn.lt g2 rfl)
  have s3 := HO.out.o.m.1
  have s4 := HO.out.o.o3
  have z1 : (growC c (c.V.length : Int)).V.length = c.V.length + 1 := by simp [growC]
  have z2 : (growC c (c.V.length : Int)).N.length = c.N.length + 1 := by simp [growC]
  have z3 : (growC c (c.V.length : Int)).M.length = c.M.length := rfl
  rw [z1, z2, z3] at HB2 HXw HO2 HQ0
  have HZ2 : Hid ((w1.alloc (Obj.cells #[.slice (some ⟨g1, 0, none⟩) (c.V.length + 1) l1, .slice (some ⟨g2, 0, none⟩) (c.N.length + 1) l2, .slice (some ⟨g3, 0, none⟩) c.M.length l3] 29)).heap.size = w1.heap.size + 1) := by unfold Hid; simp
  rw [z1, z2, z3]
  generalize w1.alloc (Obj.cells #[.slice (some ⟨g1, 0, none⟩) (c.V.length + 1) l1, .slice (some ⟨g2, 0, none⟩) (c.N.length + 1) l2, .slice (some ⟨g3, 0, none⟩) c.M.length l3] 29) = W1 at *
  generalize w1.heap.size = B at *
  have b0 := HB2.out.c0
  have b1 := HB2.out.c1
  have b2 := HB2.out.c2
  have y0 : W1.cell? ⟨g2, c.N.length * 2, none⟩ = some (.int .i64 (-1)) := by
    have := (HO2.out.o.n.2 (c.N.length * 2) (.int .i64 (-1)) (by rw [show (growC c (c.V.length : Int)).N = c.N ++ [(-1, 0)] from rfl, cellsP_append, List.getElem?_append_right (by rw [cellsP_len]; exact Nat.le_refl _), cellsP_len]; simp [cellsP])).1
    exact this
  have y1 : W1.cell? ⟨g2, c.N.length * 2 + 1, none⟩ = some (.int .i64 0) := by
    have := (HO2.out.o.n.2 (c.N.length * 2 + 1) (.int .i64 0) (by rw [show (growC c (c.V.length : Int)).N = c.N ++ [(-1, 0)] from rfl, cellsP_append, List.getElem?_append_right (by rw [cellsP_len]; omega), cellsP_len]; simp [cellsP])).1
    exact this
  have Hn2 := Lib.hid hn2
  have HL3 : Hid (c.M.length ≤ l3) := HO.out.o.lm
  have Hn := Lib.hid hn
  have hN : c.N.length ≤ 2000 := Hf.out.2.1
  have hw9 : wrap64 (c.N.length : Int) = (c.N.length : Int) := by unfold wrap64; omega
  have qn := (Q.refl W1).alloc (Obj.cells #[.int .i64 (-1), .int .i64 0] 113)
  have HXn := Lib.hid (HXw.out.q qn)
  have HS0 : Hid (GrowS w (W1.alloc (Obj.cells #[.int .i64 (-1), .int .i64 0] 113)) B (cellsI (moreC c 1).V) (cellsP (moreC c 1).N) (cellsI c.M) (c.V.length + 1) (c.N.length + 1) c.M.length g1 l1 g2 l2 g3 l3) := by
    have hz := HZ.out
    have hz2 := HZ2.out
    have d12 := HO.out.o.d12
    have d13 := HO.out.o.d13
    have d23 := HO.out.o.d23
    have rv := HO2.out.rv
    have rn := HO2.out.rn
    rw [z1, hz] at rv
    rw [z2, hz] at rn
    have ho := OwnC.of_row (World.ownsRow_lit (e := 113) (size := 2) W1 #[.int .i64 (-1), .int .i64 0] 1 (Nat.le_refl _) (by unfold maxLen; omega) rfl)
    rw [hz2] at ho
    exact ⟨HB2.out.q qn, ho, row_kept rv qn (Nat.le_refl _), row_kept rn qn (Nat.le_refl _), HO2.out.o.m.q qn, by omega, by omega, by omega, by omega, HQ0.out.trans qn⟩
  clear q0 qn s1 s2 s3 s4 z1 z2 z3 b0 b2 hn2
  go_wp2_with fail
  generalize W1.alloc (Obj.cells #[.int .i64 (-1), .int .i64 0] 113) = W2 at *
  clear b1 y0 y1 hw9
  go_loopw [17] (fun _ wr => ∃ k h1 m1 h2 m2, 1 ≤ k ∧ c.V.length + k ≤ n ∧ Hid (GrowS w wr B (cellsI (moreC c k).V) (cellsP (moreC c k).N) (cellsI c.M) (c.V.length + k) (c.N.length + k) c.M.length h1 m1 h2 m2 g3 l3) ∧ Hid (Box3 wr (w.heap.size + 1) (Value.slice none 0 0) (Value.slice none 0 0) (Value.slice none 0 0))) (fun _ wr => n - lenAt wr B)
  case atStart => exact ⟨1, g1, l1, g2, l2, Nat.le_refl _, by have := Hn.out; omega, HS0, HXn⟩
  case round =>
    obtain ⟨k, h1, m1, h2, m2, hk1, hkn, HG, HX⟩ := hrel
    obtain ⟨N1, hN1⟩ : ∃ N1, N1 = c.V.length + k := ⟨_, rfl⟩
    obtain ⟨N2, hN2⟩ : ∃ N2, N2 = c.N.length + k := ⟨_, rfl⟩
    have hNb : N2 ≤ 8000 := by have := Hn2.out; omega
    have hNa : N1 ≤ 4000 := by have := Hn2.out; omega
    have HE : Hid (N1 = c.V.length + k ∧ N2 = c.N.length + k) := ⟨hN1, hN2⟩
    rw [← hN1, ← hN2] at HG
    have b0 := HG.out.box.c0
    have b1 := HG.out.box.c1
    have b2 := HG.out.box.c2
    have f0 := HG.out.box.f0
    have f1 := HG.out.box.f1
    have hkn' : N1 ≤ n := by omega
    have HM0 : Hid (lenAt wr B = N1) := lenAt_box b0
    clear hN hkn hN1 hN2
    by_cases hlt : N1 < n
    · have qa := (Q.refl wr).alloc (Obj.cells #[.int .i64 (N1 : Int)] 3)
      have HGa := Lib.hid (HG.out.q' qa)
      have Hs := Lib.hid (src_block (heap_alloc_new wr (Obj.cells #[.int .i64 (N1 : Int)] 3)))
      have HSz : Hid (w.heap.size + 2 ≤ (wr.alloc (Obj.cells #[.int .i64 (N1 : Int)] 3)).heap.size) := by unfold Hid; have := HG.out.lo.1; have := HG.out.box.lt; simp; omega
      have HXa := Lib.hid (HX.out.q qa)
      clear qa
      go_upto_region 4 with fail
      go_upto_region 5 with (at_builtin; refine wpList_append_src _ rfl (.tmp 23) (.tmp 27) _ rfl (w.heap.size + 2) 3 j0 _ 1 8 Tryz.underlying24 Hi.out Hy0.out Hy1.out Hy2.out rfl (by omega) (.slice (some ⟨h1, 0, none⟩) N1 m1) N1 _ rfl HGa.out.rv (some ⟨wr.heap.size, 0, none⟩) 1 1 [.int .i64 (N1 : Int)] rfl rfl Hs.out (by simp [Value.oneCell']) (by unfold maxLen; omega) (by omega) HSz.out ?_; intro v' w5 own5 gr5 hb5; obtain ⟨h5, m5, rfl, -, -, -⟩ := row_some own5 (by omega); have Own5 := Lib.hid own5; have Gr5 := Lib.hid gr5; have Hb5 := Lib.hid hb5; clear own5 gr5 hb5; have bx := HGa.out.box.grown Gr5.out HGa.out.d1.1; have x0 := bx.c0; have x1 := bx.c1; have xf := bx.f0)
      have HG6 := Lib.hid (HGa.out.putV Gr5.out Own5.out (by have := Hb5.out; simpa [Value.ownBlock] using this))
      have HX6 := Lib.hid ((HXa.out.grown Gr5.out (show h1 ≠ w.heap.size + 1 by have := (HGa.out.rv.lt h1 rfl).1; omega)).grown (setCell_grown w5 B 0 (.slice (some ⟨h5, 0, none⟩) (N1 + 1) m5)) (by have := HGa.out.lo.1; omega))
      clear bx x0 x1 xf b0 b1 b2 f0 f1 HG HGa HXa HX Hs HSz Own5 Gr5 Hb5
      generalize w5.setCell ⟨B, 0, none⟩ (.slice (some ⟨h5, 0, none⟩) (N1 + 1) m5) = W6 at *
      have b0 := HG6.out.box.c0
      have b1 := HG6.out.box.c1
      have b2 := HG6.out.box.c2
      have f1 := HG6.out.box.f1
      have n0 : W6.cell? ⟨W1.heap.size, 0, none⟩ = some (.int .i64 (-1)) := by rw [HZ2.out]; exact (HG6.out.note.2 0 _ rfl).1
      have n1 : W6.cell? ⟨W1.heap.size, 1, none⟩ = some (.int .i64 0) := by rw [HZ2.out]; exact (HG6.out.note.2 1 _ rfl).1
      have qa := (Q.refl W6).alloc (Obj.cells #[.int .i64 (-1), .int .i64 0] 113)
      have HGa := Lib.hid (HG6.out.q' qa)
      have Hs := Lib.hid (src_block (heap_alloc_new W6 (Obj.cells #[.int .i64 (-1), .int .i64 0] 113)))
      have HSz : Hid (w.heap.size + 2 ≤ (W6.alloc (Obj.cells #[.int .i64 (-1), .int .i64 0] 113)).heap.size) := by unfold Hid; have := HG6.out.lo.1; have := HG6.out.box.lt; simp; omega
      have HXa := Lib.hid (HX6.out.q qa)
      clear qa
      go_wp2_with (at_builtin; refine wpList_append_src _ rfl (.tmp 31) (.tmp 33) _ rfl (w.heap.size + 2) 113 j1 _ 2 16 Tryz.underlying27 Gi.out Gy0.out Gy1.out Gy2.out rfl (by omega) (.slice (some ⟨h2, 0, none⟩) N2 m2) N2 _ rfl HGa.out.rn (some ⟨W6.heap.size, 0, none⟩) 1 1 [.int .i64 (-1), .int .i64 0] rfl rfl Hs.out (by simp [Value.oneCell']) (by unfold maxLen; omega) (by omega) HSz.out ?_; intro v' w7 own7 gr7 hb7; obtain ⟨h7, m7, rfl, -, -, -⟩ := row_some own7 (by omega); have Own7 := Lib.hid own7; have Gr7 := Lib.hid gr7; have Hb7 := Lib.hid hb7; clear own7 gr7 hb7; have bx := HGa.out.box.grown Gr7.out HGa.out.d2.1; have x0 := bx.c0; have x1 := bx.c1; have xf := bx.f1)
      have HG8 := Lib.hid (HGa.out.putN Gr7.out Own7.out (by have := Hb7.out; simpa [Value.ownBlock] using this))
      have HX8 := Lib.hid ((HXa.out.grown Gr7.out (show h2 ≠ w.heap.size + 1 by have := (HGa.out.rn.lt h2 rfl).1; omega)).grown (setCell_grown w7 B 1 (.slice (some ⟨h7, 0, none⟩) (N2 + 1) m7)) (by have := HGa.out.lo.1; omega))
      have HM8 : Hid (lenAt (w7.setCell ⟨B, 1, none⟩ (.slice (some ⟨h7, 0, none⟩) (N2 + 1) m7)) B = N1 + 1) := lenAt_box HG8.out.box.c0
      have eL : cellsI (moreC c k).V ++ [.int .i64 (N1 : Int)] = cellsI (moreC c (k + 1)).V := by rw [HE.out.1]; exact (moreC_next c k).1.symm
      rw [eL, ← (moreC_next c k).2] at HG8
      have EL := Lib.hid eL
      clear eL
      go_roundw
      case rel => exact ⟨k + 1, h5, m5, h7, m7, by omega, by have := HE.out.1; omega, by rw [show c.V.length + (k + 1) = N1 + 1 by have := HE.out.1; omega, show c.N.length + (k + 1) = N2 + 1 by have := HE.out.2; omega]; exact HG8, HX8⟩
      case measure => rw [HM0.out, HM8.out]; omega
    · have e : N1 = n := by omega
      have HNe : Hid (n = c.V.length + k ∧ n - c.V.length = k) := by have := HE.out.1; unfold Hid; omega
      have x0 := HX.out.c0
      have x1 := HX.out.c1
      have x2 := HX.out.c2
      have xf0 := HX.out.f0
      have xf1 := HX.out.f1
      have xf2 := HX.out.f2
      have bz := HX.out.all (.slice (some ⟨h1, 0, none⟩) N1 m1) (.slice (some ⟨h2, 0, none⟩) N2 m2) (.slice (some ⟨g3, 0, none⟩) c.M.length l3)
      have y0 := bz.c0
      have y1 := bz.c1
      have y2 := bz.c2
      clear bz e
      go_wp2_with fail
      refine bodyPost_ret (v := .agg #[.slice (some ⟨h1, 0, none⟩) N1 m1, .slice (some ⟨h2, 0, none⟩) N2 m2, .slice (some ⟨g3, 0, none⟩) c.M.length l3]) (by simp [results, Tryz.f99, go_sem, y0, y1, y2]) rfl ⟨some ⟨h1, 0, none⟩, m1, some ⟨h2, 0, none⟩, m2, some ⟨g3, 0, none⟩, l3, ?_, ?_⟩
      · rw [HNe.out.2, (moreC_len c k).1, (moreC_len c k).2.1, (moreC_len c k).2.2, ← HE.out.1, ← HE.out.2]
      · rw [HNe.out.2]
        have hg := set3_grown wr (w.heap.size + 1) (.slice (some ⟨h1, 0, none⟩) N1 m1) (.slice (some ⟨h2, 0, none⟩) N2 m2) (.slice (some ⟨g3, 0, none⟩) c.M.length l3)
        have e1 := (HG.out.rv.lt h1 rfl).1
        have e2 := (HG.out.rn.lt h2 rfl).1
        have e3 := HG.out.lo.2
        obtain ⟨_, _, hc1, _, _, hn1⟩ := row_some HG.out.rv (by have := HE.out.1; omega)
        obtain ⟨_, _, hc2, _, _, hn2⟩ := row_some HG.out.rn (by have := HE.out.2; omega)
        injection hc1 with _ _ hc1
        injection hc2 with _ _ hc2
        exact ⟨fun _ => ⟨h1, rfl, by omega, OwnC.of_row (row_far HG.out.rv hg (by omega))⟩, fun _ => ⟨h2, rfl, by omega, OwnC.of_row (row_far HG.out.rn hg (by omega))⟩, by rw [(moreC_len c k).2.2]; exact fun _ => ⟨g3, rfl, by omega, HG.out.m.grown hg (by intro e; injection e with e; omega)⟩, by rw [(moreC_len c k).1, ← HE.out.1]; omega, by rw [(moreC_len c k).2.1, ← HE.out.2]; omega, by rw [(moreC_len c k).2.2]; exact HL3.out, grown_q hg HG.out.q (by omega)⟩
end Go.Proofs.YtjmopbimleoidaaGreat.Ig

namespace Go.Proofs.YtjmopbimleoidaaGreat.Hs
open Go.RowKit Kit

/-- a slice value that reads as these numbers, in a block of this kind -/
def IntsP (w : World) (P : Nat → Prop) (A : Option Addr) (xs : List Int) : Prop := 0 < xs.length → ∃ ad, A = some ad ∧ P ad.block ∧ ad.block < w.heap.size ∧ ∀ i x, xs[i]? = some x → w.cell? (ad.add i) = some (.int .i64 x)
def KeysP (w : World) (P : Nat → Prop) (A : Option Addr) (ks : List (List Int)) : Prop :=
  0 < ks.length → ∃ ad, A = some ad ∧ P ad.block ∧ ad.block < w.heap.size ∧ ∀ i k, ks[i]? = some k → ∃ a c, k.length ≤ c ∧ w.cell? (ad.add i) = some (.slice a k.length c) ∧ IntsP w P a k
section
variable {w w' : World} {P : Nat → Prop} {A : Option Addr}
theorem IntsP.ints {xs : List Int} (h : IntsP w P A xs) : Ints w w.heap.size A xs := fun h0 => by
  obtain ⟨ad, e, _, hl, hc⟩ := h h0
  exact ⟨ad, e, hl, hc⟩
theorem KeysP.keys {ks : List (List Int)} (h : KeysP w P A ks) : Keys w w.heap.size A ks := fun h0 => by
  obtain ⟨ad, e, _, hl, hc⟩ := h h0
  exact ⟨ad, e, hl, fun i k hk => by obtain ⟨a, c, h1, h2, h3⟩ := hc i k hk; exact ⟨a, c, h1, h2, h3.ints⟩⟩
theorem IntsP.q {xs : List Int} (h : IntsP w P A xs) (q : Q w w') : IntsP w' P A xs := fun h0 => by
  obtain ⟨ad, e, hp, hl, hc⟩ := h h0
  exact ⟨ad, e, hp, Nat.lt_of_lt_of_le hl q.size, fun i x hx => (q.cell (by rw [add_block]; exact hl)).trans (hc i x hx)⟩
theorem KeysP.q {ks : List (List Int)} (h : KeysP w P A ks) (q : Q w w') : KeysP w' P A ks := fun h0 => by
  obtain ⟨ad, e, hp, hl, hc⟩ := h h0
  exact ⟨ad, e, hp, Nat.lt_of_lt_of_le hl q.size, fun i k hk => by obtain ⟨a, c, h1, h2, h3⟩ := hc i k hk; exact ⟨a, c, h1, (q.cell (by rw [add_block]; exact hl)).trans h2, h3.q q⟩⟩
theorem Ints.p {lo : Nat} {xs : List Int} (h : Ints w lo A xs) (hlo : lo ≤ w.heap.size) (hP : ∀ b, b < lo → P b) : IntsP w P A xs := fun h0 => by
  obtain ⟨ad, e, hl, hc⟩ := h h0
  exact ⟨ad, e, hP _ hl, by omega, hc⟩
theorem Keys.p {lo : Nat} {ks : List (List Int)} (h : Keys w lo A ks) (hlo : lo ≤ w.heap.size) (hP : ∀ b, b < lo → P b) : KeysP w P A ks := fun h0 => by
  obtain ⟨ad, e, hl, hc⟩ := h h0
  exact ⟨ad, e, hP _ hl, by omega, fun i k hk => by obtain ⟨a, c, h1, h2, h3⟩ := hc i k hk; exact ⟨a, c, h1, h2, h3.p hlo hP⟩⟩
/-- another world, the same in blocks of this kind -/
theorem IntsP.to {W : World} {xs : List Int} (h : IntsP w P A xs) (hs : w.heap.size ≤ W.heap.size) (hW : ∀ p : Addr, P p.block → p.block < w.heap.size → W.cell? p = w.cell? p) : Ints W W.heap.size A xs := fun h0 => by
  obtain ⟨ad, e, hp, hl, hc⟩ := h h0
  exact ⟨ad, e, by omega, fun i x hx => by rw [hW _ (by rw [add_block]; exact hp) (by rw [add_block]; exact hl)]; exact hc i x hx⟩
theorem KeysP.to {W : World} {ks : List (List Int)} (h : KeysP w P A ks) (hs : w.heap.size ≤ W.heap.size) (hW : ∀ p : Addr, P p.block → p.block < w.heap.size → W.cell? p = w.cell? p) : Keys W W.heap.size A ks := fun h0 => by
  obtain ⟨ad, e, hp, hl, hc⟩ := h h0
  refine ⟨ad, e, by omega, fun i k hk => ?_⟩
  obtain ⟨a, c, h1, h2, h3⟩ := hc i k hk
  exact ⟨a, c, h1, by rw [hW _ (by rw [add_block]; exact hp) (by rw [add_block]; exact hl)]; exact h2, h3.to hs hW⟩
theorem IntsP.toP {W : World} {P' : Nat → Prop} {xs : List Int} (h : IntsP w P A xs) (hs : w.heap.size ≤ W.heap.size) (hW : ∀ p : Addr, P p.block → p.block < w.heap.size → W.cell? p = w.cell? p) (hP : ∀ b, P b → b < w.heap.size → P' b) : IntsP W P' A xs := fun h0 => by
  obtain ⟨ad, e, hp, hl, hc⟩ := h h0
  exact ⟨ad, e, hP _ hp hl, by omega, fun i x hx => by rw [hW _ (by rw [add_block]; exact hp) (by rw [add_block]; exact hl)]; exact hc i x hx⟩
theorem KeysP.toP {W : World} {P' : Nat → Prop} {ks : List (List Int)} (h : KeysP w P A ks) (hs : w.heap.size ≤ W.heap.size) (hW : ∀ p : Addr, P p.block → p.block < w.heap.size → W.cell? p = w.cell? p) (hP : ∀ b, P b → b < w.heap.size → P' b) : KeysP W P' A ks := fun h0 => by
  obtain ⟨ad, e, hp, hl, hc⟩ := h h0
  refine ⟨ad, e, hP _ hp hl, by omega, fun i k hk => ?_⟩
  obtain ⟨a, c, h1, h2, h3⟩ := hc i k hk
  exact ⟨a, c, h1, by rw [hW _ (by rw [add_block]; exact hp) (by rw [add_block]; exact hl)]; exact h2, h3.toP hs hW hP⟩
theorem KeysP.vals {ks : List (List Int)} (h : KeysP w P A ks) :
    ∃ vs : List Value, vs.length = ks.length ∧ SrcB w w.heap.size A vs ∧ ∀ (i : Nat) (k : List Int), ks[i]? = some k → ∃ a c, k.length ≤ c ∧ vs[i]? = some (Value.slice a k.length c) ∧ IntsP w P a k := by
  obtain ⟨vs, hl, hs, hv⟩ := h.keys.vals
  refine ⟨vs, hl, hs, fun i k hk => ?_⟩
  have hil := (List.getElem?_eq_some_iff.1 hk).1
  obtain ⟨ad, e, _, _, hc⟩ := h (by omega)
  obtain ⟨a', c', hle', e', hI⟩ := hc i k hk
  obtain ⟨ad2, e2, _, hc2⟩ := hs (by omega)
  rw [e] at e2
  injection e2 with e2
  subst e2
  obtain ⟨a, c, _, ev, _⟩ := hv i k hk
  have h2 := hc2 i _ ev
  rw [e'] at h2
  injection h2 with h2
  exact ⟨a', c', hle', by rw [h2]; exact ev, hI⟩
end
end Go.Proofs.YtjmopbimleoidaaGreat.Hs

namespace Go.Proofs.YtjmopbimleoidaaGreat.Ig
open Go.RowKit Kit Tr Uf
open Go.Proofs.YtjmopbimleoidaaGreat.Hs (Keys Ints BoxT KeysP IntsP)
/-- a slice value that reads these cells, in a block of this kind -/
def RdsP (w : World) (P : Nat → Prop) (A : Option Addr) (cs : List Value) : Prop := 0 < cs.length → ∃ ad, A = some ad ∧ P ad.block ∧ ad.block < w.heap.size ∧ ∀ j v, cs[j]? = some v → w.cell? (ad.add j) = some v
theorem RdsP.rds {w : World} {P : Nat → Prop} {A : Option Addr} {cs : List Value} (h : RdsP w P A cs) : Tr.Rds w w.heap.size A cs := fun h0 => by
  obtain ⟨ad, e, _, hl, hc⟩ := h h0
  exact ⟨ad, e, hl, hc⟩
theorem RdsP.toP {w W : World} {P P' : Nat → Prop} {A : Option Addr} {cs : List Value} (h : RdsP w P A cs) (hs : w.heap.size ≤ W.heap.size) (hW : ∀ p : Addr, P p.block → p.block < w.heap.size → W.cell? p = w.cell? p) (hP : ∀ b, P b → b < w.heap.size → P' b) : RdsP W P' A cs := fun h0 => by
  obtain ⟨ad, e, hp, hl, hc⟩ := h h0
  exact ⟨ad, e, hP _ hp hl, by omega, fun j v hj => by rw [hW _ (by rw [Tr.add_block]; exact hp) (by rw [Tr.add_block]; exact hl)]; exact hc j v hj⟩
theorem RdsP.of_own {w : World} {P : Nat → Prop} {g : Nat} {cs : List Value} (h : OwnC w g cs) (hP : P g) : RdsP w P (some ⟨g, 0, none⟩) cs := fun _ => ⟨_, rfl, hP, h.1, fun j v hv => by rw [Tr.add_zero_head]; exact (h.2 j v hv).1⟩
theorem RdsP.of_owno {w : World} {P : Nat → Prop} {lo : Nat} {A : Option Addr} {cs : List Value} (h : OwnO w lo A cs) (hP : ∀ b, lo ≤ b → P b) : RdsP w P A cs := fun h0 => by
  obtain ⟨g, rfl, hg, ho⟩ := h h0
  exact RdsP.of_own ho (hP g hg) h0
/-- what agrees: a store into a block that isn't of the kind -/
theorem agree_grown {w w' : World} {P : Nat → Prop} {B : Nat} (hg : w.grownBy w' (some B)) (hB : ¬ P B) : w.heap.size ≤ w'.heap.size ∧ ∀ p : Addr, P p.block → p.block < w.heap.size → w'.cell? p = w.cell? p := by
  refine ⟨hg.size, fun p hp hl => ?_⟩
  have := hg.block p.block hl (fun e => by injection e with e; rw [e] at hp; exact hB hp)
  simp only [World.cell?, this]
theorem agree_q {w w' : World} {P : Nat → Prop} (q : Q w w') : w.heap.size ≤ w'.heap.size ∧ ∀ p : Addr, P p.block → p.block < w.heap.size → w'.cell? p = w.cell? p := ⟨q.size, fun _ _ hl => q.cell hl⟩
theorem RowI.p {w : World} {g e : Nat} {v : Value} {l : List Int} (h : RowI w g e v l) (he : e ≤ w.heap.size) {P : Nat → Prop} (hP : ∀ b, g < b → b < e → P b) : ∃ a c, l.length ≤ c ∧ v = .slice a l.length c ∧ IntsP w P a l := by
  obtain ⟨A, c, rfl, hc, k⟩ := h.form
  refine ⟨A, c, hc, rfl, fun h0 => ?_⟩
  obtain ⟨ad, e1, h1, h2, h3⟩ := k h0
  exact ⟨ad, e1, hP _ h1 h2, by omega, fun i x hx => h3 i _ (by simp [cellsI, hx])⟩
theorem Tab.p {w : World} {g e : Nat} {ks : List (List Int)} (h : Tab w g e ks) {P : Nat → Prop} (hP : ∀ b, g ≤ b → b < e → P b) : KeysP w P (some ⟨g, 0, none⟩) ks := fun _ => by
  obtain ⟨cs, _, a, b, c⟩ := h.own
  refine ⟨_, rfl, hP g (Nat.le_refl _) h.lt, Nat.lt_of_lt_of_le h.lt h.le, fun i k hi => ?_⟩
  obtain ⟨v, d, r⟩ := c i k hi
  obtain ⟨A, m, hm, rfl, hI⟩ := r.p h.le (P := P) (fun b h1 h2 => hP b (Nat.le_of_lt h1) h2)
  exact ⟨A, m, hm, by rw [Tr.add_zero_head]; exact (a.2 i _ d).1, hI⟩
/-- a table, and empty rows behind -/
theorem tab_more {w w' : World} {g e m : Nat} {ks : List (List Int)} {cs : List Value} {v' : Value} (h : Tab w g e ks) (hcl : cs.length = ks.length) (hr : ∀ (y : Nat) (l : List Int), ks[y]? = some l → ∃ v, cs[y]? = some v ∧ RowI w g e v l)
    (ho : w'.ownsRow g 24 1 v' (ks.length + m) (cs ++ List.replicate m (.slice none 0 0))) (gr : w.grownBy w' (some g)) (ha : v'.ownBlock = some g ∨ v'.ownBlock = some w.heap.size) (hm : 0 < m) {P : Nat → Prop} (hP : ∀ b, g ≤ b ∧ b < e ∨ b = w.heap.size → P b) :
    ∃ A c, v' = .slice A (ks.length + m) c ∧ ks.length + m ≤ c ∧ KeysP w' P A (ks ++ List.replicate m []) := by
  obtain ⟨G, c, rfl, _, hGl, hc⟩ := row_some ho (by omega)
  have hG : G = g ∨ G = w.heap.size := by simpa [Value.ownBlock] using ha
  have hge := h.lt
  have hes := h.le
  refine ⟨_, c, rfl, hc, fun _ => ⟨_, rfl, hP G (by omega), hGl, fun i k hi => ?_⟩⟩
  have hO := OwnC.of_row ho
  by_cases hil : i < ks.length
  · rw [List.getElem?_append_left hil] at hi
    obtain ⟨v, d, r⟩ := hr i k hi
    have r' : RowI w' g e v k := r.keep gr (.inl (Nat.le_refl _))
    obtain ⟨a, cc, hcc, rfl, hI⟩ := r'.p (Nat.le_trans hes gr.size) (P := P) (fun b h1 h2 => hP b (.inl ⟨Nat.le_of_lt h1, h2⟩))
    exact ⟨a, cc, hcc, by rw [Tr.add_zero_head]; exact (hO.2 i _ (by rw [List.getElem?_append_left (by omega)]; exact d)).1, hI⟩
  · rw [List.getElem?_append_right (by omega), List.getElem?_replicate] at hi
    have hi2 : i - ks.length < m := by
      by_cases hx : i - ks.length < m
      · exact hx
      · rw [if_neg hx] at hi; cases hi
    rw [if_pos hi2] at hi
    injection hi with hi
    subst hi
    refine ⟨none, 0, Nat.le_refl _, ?_, fun h => absurd h (by simp)⟩
    rw [Tr.add_zero_head]
    exact (hO.2 i _ (by rw [List.getElem?_append_right (by omega), hcl, List.getElem?_replicate, if_pos hi2]; rfl)).1
theorem OwnC.src {w : World} {g : Nat} {cs : List Value} (h : OwnC w g cs) : Src w (some ⟨g, 0, none⟩) cs := fun _ => ⟨_, rfl, fun j v hv => by rw [Tr.add_zero_head]; exact (h.2 j v hv).1⟩

/-- a graph that can be read, in blocks of a kind -/
structure GRP (w : World) (K : Nat → Prop) (R : List Int) (c : Cells) (P T : List (List Int)) (F A D E Pa Ta : Option Addr) (cr k1 k2 k3 kp kt : Nat) : Prop where
  r : RdsP w K F (cellsI R)
  v : RdsP w K A (cellsI c.V)
  n : RdsP w K D (cellsP c.N)
  m : RdsP w K E (cellsI c.M)
  p : KeysP w K Pa P
  t : KeysP w K Ta T
  lr : R.length ≤ cr
  lv : c.V.length ≤ k1
  ln : c.N.length ≤ k2
  lm : c.M.length ≤ k3
  lp : P.length ≤ kp
  lt : T.length ≤ kt
theorem GRP.to {w W : World} {K K' : Nat → Prop} {R : List Int} {c : Cells} {P T : List (List Int)} {F A D E Pa Ta : Option Addr} {cr k1 k2 k3 kp kt : Nat} (h : GRP w K R c P T F A D E Pa Ta cr k1 k2 k3 kp kt) (ha : w.heap.size ≤ W.heap.size ∧ ∀ p : Addr, K p.block → p.block < w.heap.size → W.cell? p = w.cell? p) (hK : ∀ b, K b → b < w.heap.size → K' b) : GRP W K' R c P T F A D E Pa Ta cr k1 k2 k3 kp kt :=
  ⟨h.r.toP ha.1 ha.2 hK, h.v.toP ha.1 ha.2 hK, h.n.toP ha.1 ha.2 hK, h.m.toP ha.1 ha.2 hK, h.p.toP ha.1 ha.2 hK, h.t.toP ha.1 ha.2 hK, h.lr, h.lv, h.ln, h.lm, h.lp, h.lt⟩
theorem GRP.rd {w : World} {K : Nat → Prop} {R : List Int} {c : Cells} {P T : List (List Int)} {F A D E Pa Ta : Option Addr} {cr k1 k2 k3 kp kt : Nat} (h : GRP w K R c P T F A D E Pa Ta cr k1 k2 k3 kp kt) : Rd w c A k1 D k2 E k3 := ⟨h.v.rds, h.n.rds, h.m.rds, h.lv, h.ln, h.lm⟩
theorem GRP.q {w W : World} {K : Nat → Prop} {R : List Int} {c : Cells} {P T : List (List Int)} {F A D E Pa Ta : Option Addr} {cr k1 k2 k3 kp kt : Nat} (h : GRP w K R c P T F A D E Pa Ta cr k1 k2 k3 kp kt) (q : Q w W) : GRP W K R c P T F A D E Pa Ta cr k1 k2 k3 kp kt := h.to (agree_q q) (fun _ h _ => h)
/-- its value -/
def gvP (R : List Int) (c : Cells) (P T : List (List Int)) (F A D E Pa Ta : Option Addr) (cr k1 k2 k3 kp kt : Nat) : Value := .agg #[.slice F R.length cr, .slice A c.V.length k1, .slice D c.N.length k2, .slice E c.M.length k3, .slice Pa P.length kp, .slice Ta T.length kt]
/-- a call's answer: a graph in memory of the call's own -/
def GAns (R : List Int) (c : Cells) (P T : List (List Int)) (w : World) (e : Ending) (w' : World) : Prop :=
  ∃ F A D E Pa Ta cr k1 k2 k3 kp kt, e = .returned (gvP R c P T F A D E Pa Ta cr k1 k2 k3 kp kt) ∧ GRP w' (fun b => w.heap.size ≤ b) R c P T F A D E Pa Ta cr k1 k2 k3 kp kt ∧ Q w w'
theorem gans {w w' : World} {R : List Int} {c : Cells} {P T : List (List Int)} {F A D E Pa Ta : Option Addr} {cr k1 k2 k3 kp kt : Nat} (h : GRP w' (fun b => w.heap.size ≤ b) R c P T F A D E Pa Ta cr k1 k2 k3 kp kt) (q : Q w w') : GAns R c P T w (.returned (gvP R c P T F A D E Pa Ta cr k1 k2 k3 kp kt)) w' := ⟨F, A, D, E, Pa, Ta, cr, k1, k2, k3, kp, kt, rfl, h, q⟩
theorem GOut.grp {w w' : World} {R : List Int} {c : Cells} {P T : List (List Int)} {g0 g1 g2 g3 gp ep gs es : Nat} (h : GOut w w' R c P T g0 g1 g2 g3 gp ep gs es) {K : Nat → Prop} (hK : ∀ b, g0 ≤ b → b < w'.heap.size → K b) : GRP w' K R c P T (some ⟨g0, 0, none⟩) (some ⟨g1, 0, none⟩) (some ⟨g2, 0, none⟩) (some ⟨g3, 0, none⟩) (some ⟨gp, 0, none⟩) (some ⟨gs, 0, none⟩) R.length c.V.length c.N.length c.M.length P.length T.length := by
  obtain ⟨r, v, n, m, p, t, o0, o1, o2, o3, o4, o5, q⟩ := h
  have := p.le
  have := t.le
  have := p.lt
  have := t.lt
  exact ⟨.of_own r (hK _ (by omega) r.1), .of_own v (hK _ (by omega) v.1), .of_own n (hK _ (by omega) n.1), .of_own m (hK _ (by omega) m.1), p.p (fun b h1 h2 => hK b (by omega) (by omega)), t.p (fun b h1 h2 => hK b (by omega) (by omega)), Nat.le_refl _, Nat.le_refl _, Nat.le_refl _, Nat.le_refl _, Nat.le_refl _, Nat.le_refl _⟩
end Go.Proofs.YtjmopbimleoidaaGreat.Ig

namespace Go.Proofs.YtjmopbimleoidaaGreat.Ig
open Go.RowKit Kit Tr Uf
open Go.Proofs.YtjmopbimleoidaaGreat.Hs (Keys Ints)
theorem rds_ints12 {w : World} {B : Nat} {A : Option Addr} {xs : List Int} (h : Tr.Rds w B A (Tr.cellsI xs)) : Ints w B A xs := fun h0 => by
  obtain ⟨ad, e, hb, hc⟩ := h (by rw [Tr.cellsI_len]; exact h0)
  refine ⟨ad, e, hb, fun i x hx => ?_⟩
  obtain ⟨hi, rfl⟩ := List.getElem?_eq_some_iff.1 hx
  exact hc i _ (Tr.cellsI_at hi)

set_option maxRecDepth 100000 in
set_option maxHeartbeats 4000000 in
theorem refSame12_any (R : List Int) (c : Cells) (P T : List (List Int)) (F A D E Pa Ta F' A' D' E' Pa' Ta' : Option Addr) (nr cr n1 k1 n2 k2 n3 k3 np kp nt kt nr' cr' n1' k1' n2' k2' n3' k3' np' kp' nt' kt' : Nat) (w : World)
    (hr : nr = R.length) (h1 : n1 = c.V.length) (h2 : n2 = c.N.length) (h3 : n3 = c.M.length) (hp : np = P.length) (ht : nt = T.length)
    (hr' : nr' = R.length) (h1' : n1' = c.V.length) (h2' : n2' = c.N.length) (h3' : n3' = c.M.length) (hp' : np' = P.length) (ht' : nt' = T.length)
    (hR : Tr.Rds w w.heap.size F (cellsI R)) (h : Rd w c A k1 D k2 E k3) (hP : Keys w w.heap.size Pa P) (hT : Keys w w.heap.size Ta T)
    (hR' : Tr.Rds w w.heap.size F' (cellsI R)) (h' : Rd w c A' k1' D' k2' E' k3') (hP' : Keys w w.heap.size Pa' P) (hT' : Keys w w.heap.size Ta' T)
    (lR : R.length ≤ maxLen) (hf : Few c 1000000) (lP : P.length ≤ maxLen) (lT : T.length ≤ maxLen) (sP : ∀ k ∈ P, k.length ≤ maxLen) (sT : ∀ k ∈ T, k.length ≤ maxLen) :
    Calls Tryz.prog 12 #[.agg #[.slice F nr cr, .slice A n1 k1, .slice D n2 k2, .slice E n3 k3, .slice Pa np kp, .slice Ta nt kt], .agg #[.slice F' nr' cr', .slice A' n1' k1', .slice D' n2' k2', .slice E' n3' k3', .slice Pa' np' kp', .slice Ta' nt' kt']] w fun e w' => e = .returned (.bool true) ∧ Q w w' := by
  subst hr h1 h2 h3 hp ht hr' h1' h2' h3' hp' ht'
  have HQ0 := Lib.hid (((Q.refl w).alloc (Obj.cells #[.slice F R.length cr, .slice A c.V.length k1, .slice D c.N.length k2, .slice E c.M.length k3, .slice Pa P.length kp, .slice Ta T.length kt] 31)).alloc (Obj.cells #[.slice F' R.length cr', .slice A' c.V.length k1', .slice D' c.N.length k2', .slice E' c.M.length k3', .slice Pa' P.length kp', .slice Ta' T.length kt'] 31))
  have HB := Lib.hid ((Box6.new w (.slice F R.length cr) (.slice A c.V.length k1) (.slice D c.N.length k2) (.slice E c.M.length k3) (.slice Pa P.length kp) (.slice Ta T.length kt) 31).q ((Q.refl _).alloc (Obj.cells #[.slice F' R.length cr', .slice A' c.V.length k1', .slice D' c.N.length k2', .slice E' c.M.length k3', .slice Pa' P.length kp', .slice Ta' T.length kt'] 31)))
  have X := Box6.new (w.alloc (Obj.cells #[.slice F R.length cr, .slice A c.V.length k1, .slice D c.N.length k2, .slice E c.M.length k3, .slice Pa P.length kp, .slice Ta T.length kt] 31)) (.slice F' R.length cr') (.slice A' c.V.length k1') (.slice D' c.N.length k2') (.slice E' c.M.length k3') (.slice Pa' P.length kp') (.slice Ta' T.length kt') 31
  rw [World.size_alloc] at X
  have HB' := Lib.hid X
  clear X
  have C1 : Hid (∀ U, Q w U → Calls Tryz.prog 49 #[.agg #[.slice A c.V.length k1, .slice D c.N.length k2, .slice E c.M.length k3], .agg #[.slice A' c.V.length k1', .slice D' c.N.length k2', .slice E' c.M.length k3']] U fun e w' => e = .returned (.bool true) ∧ Q U w') := fun U p => Tr.same_any c A D E A' D' E' _ k1 _ k2 _ k3 _ k1' _ k2' _ k3' U rfl rfl rfl rfl rfl rfl (h.q p) (h'.q p) hf
  have C2 : Hid (∀ U, Q w U → Calls Tryz.prog 16 #[.slice F R.length cr, .slice F' R.length cr'] U fun e w' => e = .returned (.bool true) ∧ Q U w') := fun U p => by
    refine (Hs.refInts_any F F' _ cr _ cr' R R U rfl rfl (rds_ints12 (hR.q p)) (rds_ints12 (hR'.q p)) lR).mono ?_
    rintro e w' ⟨rfl, d, rfl⟩
    exact ⟨by rw [(Hs.eqL_iff R R).2 rfl], (Q.refl _).drewN d⟩
  have C3 : Hid (∀ U, Q w U → Calls Tryz.prog 50 #[.slice Pa P.length kp, .slice Pa' P.length kp'] U fun e w' => e = .returned (.bool true) ∧ Q U w') := fun U p => by
    refine (Hs.refRows_any Pa Pa' _ kp _ kp' P P U rfl rfl ((hP.q (Nat.le_refl _) p).more p.size) ((hP'.q (Nat.le_refl _) p).more p.size) lP sP).mono ?_
    rintro e w' ⟨rfl, d, rfl⟩
    exact ⟨by rw [(Hs.rowsB_iff P P).2 rfl], (Q.refl _).drewN d⟩
  have C4 : Hid (∀ U, Q w U → Calls Tryz.prog 50 #[.slice Ta T.length kt, .slice Ta' T.length kt'] U fun e w' => e = .returned (.bool true) ∧ Q U w') := fun U p => by
    refine (Hs.refRows_any Ta Ta' _ kt _ kt' T T U rfl rfl ((hT.q (Nat.le_refl _) p).more p.size) ((hT'.q (Nat.le_refl _) p).more p.size) lT sT).mono ?_
    rintro e w' ⟨rfl, d, rfl⟩
    exact ⟨by rw [(Hs.rowsB_iff T T).2 rfl], (Q.refl _).drewN d⟩
  clear hR h hP hT hR' h' hP' hT' lR hf lP lT sP sT
  go_enter Tryz.func12, Tryz.ntmps12
  go_upto_region 1 with fail
  generalize (w.alloc (Obj.cells #[.slice F R.length cr, .slice A c.V.length k1, .slice D c.N.length k2, .slice E c.M.length k3, .slice Pa P.length kp, .slice Ta T.length kt] 31)).alloc (Obj.cells #[.slice F' R.length cr', .slice A' c.V.length k1', .slice D' c.N.length k2', .slice E' c.M.length k3', .slice Pa' P.length kp', .slice Ta' T.length kt'] 31) = W0 at *
  have ALL : Hid (∀ U, Q W0 U → (U.cell? ⟨w.heap.size, 0, none⟩ = some (.slice F R.length cr) ∧ U.cell? ⟨w.heap.size, 1, none⟩ = some (.slice A c.V.length k1) ∧ U.cell? ⟨w.heap.size, 2, none⟩ = some (.slice D c.N.length k2) ∧ U.cell? ⟨w.heap.size, 3, none⟩ = some (.slice E c.M.length k3) ∧ U.cell? ⟨w.heap.size, 4, none⟩ = some (.slice Pa P.length kp) ∧ U.cell? ⟨w.heap.size, 5, none⟩ = some (.slice Ta T.length kt)) ∧ (U.cell? ⟨w.heap.size + 1, 0, none⟩ = some (.slice F' R.length cr') ∧ U.cell? ⟨w.heap.size + 1, 1, none⟩ = some (.slice A' c.V.length k1') ∧ U.cell? ⟨w.heap.size + 1, 2, none⟩ = some (.slice D' c.N.length k2') ∧ U.cell? ⟨w.heap.size + 1, 3, none⟩ = some (.slice E' c.M.length k3') ∧ U.cell? ⟨w.heap.size + 1, 4, none⟩ = some (.slice Pa' P.length kp') ∧ U.cell? ⟨w.heap.size + 1, 5, none⟩ = some (.slice Ta' T.length kt'))) := fun U q => by
    have a := HB.out.q q
    have b := HB'.out.q q
    exact ⟨⟨a.c0, a.c1, a.c2, a.c3, a.c4, a.c5⟩, ⟨b.c0, b.c1, b.c2, b.c3, b.c4, b.c5⟩⟩
  obtain ⟨⟨s0, s1, s2, s3, s4, s5⟩, ⟨t0, t1, t2, t3, t4, t5⟩⟩ := ALL.out W0 (Q.refl _)
  have HQ1 : Hid (Q W0 W0) := Lib.hid (Q.refl _)
  go_wp2_with (first
    | (go_at_call 49; (with_reducible refine (C1.out W0 HQ0.out).mono ?_); rintro e w2 ⟨rfl, q1⟩; have HQ2 := Lib.hid (HQ1.out.trans q1); clear s0 s1 s2 s3 s4 s5 t0 t1 t2 t3 t4 t5 q1; obtain ⟨⟨s0, s1, s2, s3, s4, s5⟩, ⟨t0, t1, t2, t3, t4, t5⟩⟩ := ALL.out w2 HQ2.out)
    | (go_at_call 16; (with_reducible refine (C2.out w2 (HQ0.out.trans HQ2.out)).mono ?_); rintro e w3 ⟨rfl, q2⟩; have HQ3 := Lib.hid (HQ2.out.trans q2); clear s0 s1 s2 s3 s4 s5 t0 t1 t2 t3 t4 t5 q2; obtain ⟨⟨s0, s1, s2, s3, s4, s5⟩, ⟨t0, t1, t2, t3, t4, t5⟩⟩ := ALL.out w3 HQ3.out)
    | (go_at_call 50; (with_reducible refine (C3.out w3 (HQ0.out.trans HQ3.out)).mono ?_); rintro e w4 ⟨rfl, q3⟩; have HQ4 := Lib.hid (HQ3.out.trans q3); clear s0 s1 s2 s3 s4 s5 t0 t1 t2 t3 t4 t5 q3; obtain ⟨⟨s0, s1, s2, s3, s4, s5⟩, ⟨t0, t1, t2, t3, t4, t5⟩⟩ := ALL.out w4 HQ4.out)
    | (go_at_call 50; (with_reducible refine (C4.out w4 (HQ0.out.trans HQ4.out)).mono ?_); rintro e w5 ⟨rfl, q4⟩; have HQ5 := Lib.hid (HQ4.out.trans q4); clear s0 s1 s2 s3 s4 s5 t0 t1 t2 t3 t4 t5 q4)
    | fail)
  go_ret
  exact ⟨rfl, HQ0.out.trans HQ5.out⟩
end Go.Proofs.YtjmopbimleoidaaGreat.Ig

namespace Go.Proofs.YtjmopbimleoidaaGreat.Ig
open Go.RowKit Kit Tr Uf
open Go.Proofs.YtjmopbimleoidaaGreat.Hs (Keys Ints)
end Go.Proofs.YtjmopbimleoidaaGreat.Ig

namespace Go.Proofs.YtjmopbimleoidaaGreat.Kit

section
variable {P : Program} {ops : Array Oper} {Q : Exit → Act → World → Prop} {S : World → Prop}
theorem take_w {i : Nat} {oi : Oper} {d : Option Tmp} {v : Value} {fuel : Nat} {listed : Array Bool} {a : Act} {w : World} (hi : ops[i]? = some oi)
    (hs : Region.noSelect ops = true) (hf : Region.free .any ops listed i = true) (hr : (Region.ready .any ops listed).contains i = true)
    (hQ : ∀ c a w, Q (.panic c) (a.put d v) w → Q (.panic c) a w) (hd : oi.dst = d) (hw : Region.wanted oi (yielded ops a.tmps) = true) (hy : ∀ w, S w → (execOp a.eval oi).run P w = .ok (.value v) w) (hS : S w)
    (h : wpAnyH P .any ops Q S fuel (listed.setIfInBounds i true) (a.put d v) w) : wpAnyH P .any ops Q S (fuel + 1) listed a w := by
  subst hd
  exact wpAnyH_take hi hs hf hr hQ (.inl ⟨hw, hy⟩) hS h
theorem take_u {i : Nat} {oi : Oper} {d : Option Tmp} {fuel : Nat} {listed : Array Bool} {a : Act} {w : World} (hi : ops[i]? = some oi)
    (hs : Region.noSelect ops = true) (hf : Region.free .any ops listed i = true) (hr : (Region.ready .any ops listed).contains i = true)
    (hQ : ∀ c a w, Q (.panic c) (a.put d undef) w → Q (.panic c) a w) (hd : oi.dst = d) (hw : Region.wanted oi (yielded ops a.tmps) = false) (hS : S w)
    (h : wpAnyH P .any ops Q S fuel (listed.setIfInBounds i true) (a.put d undef) w) : wpAnyH P .any ops Q S (fuel + 1) listed a w := by
  subst hd
  exact wpAnyH_take hi hs hf hr hQ (.inr ⟨hw, rfl⟩) hS h
theorem call_w {i : Nat} {o : Oper} {fuel : Nat} {listed : Array Bool} {a : Act} {w : World} (ho : ops[i]? = some o) (hr : Region.ready .any ops listed = [i])
    (hw : Region.wanted o (yielded ops a.tmps) = true)
    (h : ∀ K' : Act → World → Prop, Shut (∀ a w, S w → (S w → wpAnyH P .any ops Q S fuel (listed.setIfInBounds i true) a w) → K' a w) → Oper.wp P o a w K' Q) :
    wpAnyH P .any ops Q S (fuel + 1) listed a w :=
  wpAnyH_ready hr (by simp) (AllReadyH.cons ho (fun K' hK => by rw [if_pos hw]; exact h K' hK) AllReadyH.nil)
end
end Go.Proofs.YtjmopbimleoidaaGreat.Kit

namespace Go.Proofs.YtjmopbimleoidaaGreat.Kit

section
variable {P : Program} {md : Region.Mode} {ops : Array Oper} {Q : Exit → Act → World → Prop} {S : World → Prop} {z : Nat}
def wpAnyT (P : Program) (md : Region.Mode) (ops : Array Oper) (Q : Exit → Act → World → Prop) (S : World → Prop) (z : Nat) : Nat → Array Bool → Act → World → Prop
  | 0, listed, a, w => Region.ready md ops listed = [] ∧ Q .normal a w
  | fuel + 1, listed, a, w =>
    (Region.ready md ops listed = [] → Q .normal a w) ∧
    ∀ i ∈ Region.ready md ops listed, wpOp P ops Q i (fun a' w' => ((listed.setIfInBounds i true).getD z true = false → S w') ∧ wpAnyT P md ops Q S z fuel (listed.setIfInBounds i true) a' w') a w
theorem wpAny_of_till : ∀ (fuel : Nat) (listed : Array Bool) (a : Act) (w : World), wpAnyT P md ops Q S z fuel listed a w → wpAny P md ops Q fuel listed a w
  | 0, _, _, _, h => h
  | fuel + 1, _, _, _, h => ⟨h.1, fun i hi => wpOp_mono (fun a' w' h' => wpAny_of_till fuel _ a' w' h'.2) (h.2 i hi)⟩
theorem getD_set_ne9 {xs : Array Bool} {i k : Nat} (h : i ≠ k) : (xs.setIfInBounds i true).getD k true = xs.getD k true := by
  simp only [Array.getD_eq_getD_getElem?]
  rw [Array.getElem?_setIfInBounds_ne h]
theorem wpAnyT_first {i : Nat} {oi oz : Oper} {v : Value} (hi : ops[i]? = some oi) (hsel : ∀ (j : Nat) (o : Oper) cs b, ops[j]? = some o → o.op ≠ .select cs b)
    (hQ : ∀ c a w, Q (.panic c) (a.put oi.dst v) w → Q (.panic c) a w) (hoz : ops[z]? = some oz) (hzi : ∃ e ∈ oz.after, Region.binds md e = true ∧ e.on = i) (hne : z ≠ i) :
    ∀ (fuel : Nat) (listed : Array Bool) (a : Act) (w : World),
      (∀ j oj, ops[j]? = some oj → j ≠ i → listed.getD j true = false → (∀ e ∈ oj.after, Region.binds md e = true → e.on ≠ i) → oi.apart ops oj = true) →
      i ∈ Region.ready md ops listed → listed.getD z true = false → YieldsIf P ops S oi v a → S w →
      wpAnyT P md ops Q S z fuel (listed.setIfInBounds i true) (a.put oi.dst v) w → wpAnyT P md ops Q S z (fuel + 1) listed a w := by
  intro fuel
  induction fuel with
  | zero =>
    intro listed a w _ hr _ hy hS H
    refine ⟨fun h => (by rw [h] at hr; cases hr), fun j hj => ?_⟩
    by_cases hji : j = i
    · subst hji; exact hy.wpOp hi hS ⟨fun _ => hS, H⟩
    · have := ready_mono hj hji
      rw [H.1] at this
      cases this
  | succ fuel ih =>
    intro listed a w hfree hr hz hy hS H
    refine ⟨fun h => (by rw [h] at hr; cases hr), fun j hj => ?_⟩
    by_cases hji : j = i
    · subst hji; exact hy.wpOp hi hS ⟨fun _ => hS, H⟩
    · have h1 := H.2 j (ready_mono hj hji)
      obtain ⟨hjun, oj, hoj, hall⟩ := mem_ready.1 hj
      have hnot : ∀ e ∈ oj.after, Region.binds md e = true → e.on ≠ i := fun e he hb heq => by
        have h1 := hall e he hb
        have h0 := (mem_ready.1 hr).1
        rw [heq] at h1
        rcases Nat.lt_or_ge i listed.size with h' | h'
        · simp [h'] at h0 h1; rw [h0] at h1; cases h1
        · simp [Array.getElem?_eq_none h'] at h1
      have hjz : j ≠ z := fun e => by
        subst e
        rw [hoz] at hoj
        injection hoj with hoj
        subst hoj
        obtain ⟨e, he, hb, ho⟩ := hzi
        exact hnot e he hb ho
      have hz2 : (listed.setIfInBounds j true).getD z true = false := by rw [getD_set_ne9 hjz]; exact hz
      have hz3 : ((listed.setIfInBounds i true).setIfInBounds j true).getD z true = false := by rw [getD_set_ne9 hjz, getD_set_ne9 (fun e => hne e.symm)]; exact hz
      have h2 := wpOp_putIf hoj (hfree j oj hoj hji hjun hnot) (fun cs b => hsel i oi cs b hi) (fun cs b => hsel j oj cs b hoj) hQ hy h1
      have hfree' : ∀ k ok, ops[k]? = some ok → k ≠ i → (listed.setIfInBounds j true).getD k true = false →
          (∀ e ∈ ok.after, Region.binds md e = true → e.on ≠ i) → oi.apart ops ok = true := fun k ok hk hki hun hno => by
        refine hfree k ok hk hki ?_ hno
        by_cases hjk : j = k
        · subst hjk; exact hjun
        · rw [getD_set_ne9 hjk] at hun; exact hun
      refine wpOp_mono (fun a' w' h3 => ⟨fun _ => h3.2.1 hz3, ih (listed.setIfInBounds j true) a' w' hfree' (ready_mono hr (Ne.symm hji)) hz2 h3.1 (h3.2.1 hz3) ?_⟩) h2
      rw [Array.setIfInBounds_comm _ _ hji]
      exact h3.2.2
/-- an operation that yields its value in whatever world may be taken first at any time -/
theorem wpAnyT_firstY {i : Nat} {oi : Oper} {v : Value} (hi : ops[i]? = some oi) (hsel : ∀ (j : Nat) (o : Oper) cs b, ops[j]? = some o → o.op ≠ .select cs b)
    (hQ : ∀ c a w, Q (.panic c) (a.put oi.dst v) w → Q (.panic c) a w) (hne : z ≠ i) :
    ∀ (fuel : Nat) (listed : Array Bool) (a : Act) (w : World),
      (∀ j oj, ops[j]? = some oj → j ≠ i → listed.getD j true = false → (∀ e ∈ oj.after, Region.binds md e = true → e.on ≠ i) → oi.apart ops oj = true) →
      i ∈ Region.ready md ops listed → YieldsIf P ops (fun _ => True) oi v a → (listed.getD z true = false → S w) →
      wpAnyT P md ops Q S z fuel (listed.setIfInBounds i true) (a.put oi.dst v) w → wpAnyT P md ops Q S z (fuel + 1) listed a w := by
  intro fuel
  induction fuel with
  | zero =>
    intro listed a w _ hr hy hS H
    refine ⟨fun h => (by rw [h] at hr; cases hr), fun j hj => ?_⟩
    by_cases hji : j = i
    · subst hji; exact hy.wpOp hi trivial ⟨fun h => hS (by rw [getD_set_ne9 (fun e => hne e.symm)] at h; exact h), H⟩
    · have := ready_mono hj hji
      rw [H.1] at this
      cases this
  | succ fuel ih =>
    intro listed a w hfree hr hy hS H
    refine ⟨fun h => (by rw [h] at hr; cases hr), fun j hj => ?_⟩
    by_cases hji : j = i
    · subst hji; exact hy.wpOp hi trivial ⟨fun h => hS (by rw [getD_set_ne9 (fun e => hne e.symm)] at h; exact h), H⟩
    · have h1 := H.2 j (ready_mono hj hji)
      obtain ⟨hjun, oj, hoj, hall⟩ := mem_ready.1 hj
      have hnot : ∀ e ∈ oj.after, Region.binds md e = true → e.on ≠ i := fun e he hb heq => by
        have h1 := hall e he hb
        have h0 := (mem_ready.1 hr).1
        rw [heq] at h1
        rcases Nat.lt_or_ge i listed.size with h' | h'
        · simp [h'] at h0 h1; rw [h0] at h1; cases h1
        · simp [Array.getElem?_eq_none h'] at h1
      have h2 := wpOp_putIf hoj (hfree j oj hoj hji hjun hnot) (fun cs b => hsel i oi cs b hi) (fun cs b => hsel j oj cs b hoj) hQ hy h1
      have hfree' : ∀ k ok, ops[k]? = some ok → k ≠ i → (listed.setIfInBounds j true).getD k true = false →
          (∀ e ∈ ok.after, Region.binds md e = true → e.on ≠ i) → oi.apart ops ok = true := fun k ok hk hki hun hno => by
        refine hfree k ok hk hki ?_ hno
        by_cases hjk : j = k
        · subst hjk; exact hjun
        · rw [getD_set_ne9 hjk] at hun; exact hun
      refine wpOp_mono (fun a' w' h3 => ?_) h2
      have hS' : (listed.setIfInBounds j true).getD z true = false → S w' := fun h => h3.2.1 (by
        rw [Array.setIfInBounds_comm _ _ (Ne.symm hji), getD_set_ne9 (fun e => hne e.symm)]; exact h)
      refine ⟨hS', ih (listed.setIfInBounds j true) a' w' hfree' (ready_mono hr (Ne.symm hji)) h3.1 hS' ?_⟩
      rw [Array.setIfInBounds_comm _ _ hji]
      exact h3.2.2
/-- does z wait for i? -/
def waitsB (md : Region.Mode) (ops : Array Oper) (z i : Nat) : Bool := match ops[z]? with
  | some o => o.after.any fun e => Region.binds md e && (e.on == i)
  | none => false
theorem waits_spec {i : Nat} (h : waitsB md ops z i = true) : ∃ oz, ops[z]? = some oz ∧ ∃ e ∈ oz.after, Region.binds md e = true ∧ e.on = i := by
  unfold waitsB at h
  split at h
  · rename_i o ho
    rw [Array.any_eq_true] at h
    obtain ⟨k, hk, h⟩ := h
    rw [Bool.and_eq_true, beq_iff_eq] at h
    exact ⟨o, ho, _, Array.getElem_mem hk, h⟩
  · cases h
end
section
variable {P : Program} {ops : Array Oper} {Q : Exit → Act → World → Prop} {S : World → Prop} {z : Nat}
theorem take_t {i : Nat} {oi : Oper} {d : Option Tmp} {v : Value} {fuel : Nat} {listed : Array Bool} {a : Act} {w : World} (hi : ops[i]? = some oi)
    (hs : Region.noSelect ops = true) (hf : Region.free .any ops listed i = true) (hr : (Region.ready .any ops listed).contains i = true) (hz : (waitsB .any ops z i && !(z == i) && !listed.getD z true) = true)
    (hQ : ∀ c a w, Q (.panic c) (a.put d v) w → Q (.panic c) a w) (hd : oi.dst = d) (hw : Region.wanted oi (yielded ops a.tmps) = true) (hy : ∀ w, S w → (execOp a.eval oi).run P w = .ok (.value v) w) (hS : S w)
    (h : wpAnyT P .any ops Q S z fuel (listed.setIfInBounds i true) (a.put d v) w) : wpAnyT P .any ops Q S z (fuel + 1) listed a w := by
  subst hd
  rw [Bool.and_eq_true, Bool.and_eq_true] at hz
  obtain ⟨⟨h1, h2⟩, h3⟩ := hz
  obtain ⟨oz, hoz, hzi⟩ := waits_spec h1
  exact wpAnyT_first hi (Region.noSelect_spec hs) hQ hoz hzi (by simpa using h2) fuel listed a w (Region.free_spec hi hf) (by simpa using hr) (by simpa using h3) (.inl ⟨hw, hy⟩) hS h
theorem take_y {i : Nat} {oi : Oper} {d : Option Tmp} {v : Value} {fuel : Nat} {listed : Array Bool} {a : Act} {w : World} (hi : ops[i]? = some oi)
    (hs : Region.noSelect ops = true) (hf : Region.free .any ops listed i = true) (hr : (Region.ready .any ops listed).contains i = true) (hz : (z == i) = false)
    (hQ : ∀ c a w, Q (.panic c) (a.put d v) w → Q (.panic c) a w) (hd : oi.dst = d) (hw : Region.wanted oi (yielded ops a.tmps) = true) (hy : ∀ w, (execOp a.eval oi).run P w = .ok (.value v) w) (hS : S w)
    (h : wpAnyT P .any ops Q S z fuel (listed.setIfInBounds i true) (a.put d v) w) : wpAnyT P .any ops Q S z (fuel + 1) listed a w := by
  subst hd
  exact wpAnyT_firstY hi (Region.noSelect_spec hs) hQ (by simpa using hz) fuel listed a w (Region.free_spec hi hf) (by simpa using hr) (.inl ⟨hw, fun w _ => hy w⟩) (fun _ => hS) h
theorem call_t {i : Nat} {o : Oper} {fuel : Nat} {listed : Array Bool} {a : Act} {w : World} (ho : ops[i]? = some o) (hr : Region.ready .any ops listed = [i])
    (hw : Region.wanted o (yielded ops a.tmps) = true)
    (h : ∀ K' : Act → World → Prop, Shut (∀ a w, ((listed.setIfInBounds i true).getD z true = false → S w) → wpAnyT P .any ops Q S z fuel (listed.setIfInBounds i true) a w → K' a w) → Oper.wp P o a w K' Q) :
    wpAnyT P .any ops Q S z (fuel + 1) listed a w := by
  refine ⟨fun h0 => (by rw [hr] at h0; cases h0), fun j hj => ?_⟩
  rw [hr] at hj
  obtain rfl : j = i := by simpa using hj
  exact wpOp_step ho (fun K' hK => by rw [if_pos hw]; exact h K' fun a w h1 h2 => hK a w ⟨h1, h2⟩)
theorem done_t {listed : Array Bool} {a : Act} {w : World} (hr : Region.ready .any ops listed = []) (h : Q .normal a w) :
    ∀ fuel, wpAnyT P .any ops Q S z fuel listed a w
  | 0 => ⟨hr, h⟩
  | _ + 1 => ⟨fun _ => h, by rw [hr]; simp⟩
theorem begin_t {id : Nat} {a : Act} {w : World} (hm : P.follows .mixedOrders = true) (hS : S w.drew)
    (h : S w.drew → wpAnyT P .any ops Q S z ops.size (Array.replicate ops.size false) a w.drew) : (Code.region id ops true).wp P Q a w :=
  wp_region_any hm (wpAny_of_till _ _ _ _ (h hS))
end
end Go.Proofs.YtjmopbimleoidaaGreat.Kit

namespace Go.Proofs.YtjmopbimleoidaaGreat.Kit
section
variable {P : Program} {ops : Array Oper} {Q : Exit → Act → World → Prop} {S : World → Prop} {z : Nat}
theorem both_t {i j : Nat} {oi oj : Oper} {fuel : Nat} {listed : Array Bool} {a : Act} {w : World} (hi : ops[i]? = some oi) (hj : ops[j]? = some oj) (hr : Region.ready .any ops listed = [i, j])
    (hwi : Region.wanted oi (yielded ops a.tmps) = true) (hwj : Region.wanted oj (yielded ops a.tmps) = true)
    (h1 : ∀ K' : Act → World → Prop, Shut (∀ a w, ((listed.setIfInBounds i true).getD z true = false → S w) → wpAnyT P .any ops Q S z fuel (listed.setIfInBounds i true) a w → K' a w) → Oper.wp P oi a w K' Q)
    (h2 : ∀ K' : Act → World → Prop, Shut (∀ a w, ((listed.setIfInBounds j true).getD z true = false → S w) → wpAnyT P .any ops Q S z fuel (listed.setIfInBounds j true) a w → K' a w) → Oper.wp P oj a w K' Q) :
    wpAnyT P .any ops Q S z (fuel + 1) listed a w := by
  refine ⟨fun h0 => (by rw [hr] at h0; cases h0), fun k hk => ?_⟩
  rw [hr] at hk
  have hk' : k = i ∨ k = j := by simpa using hk
  rcases hk' with rfl | rfl
  · exact wpOp_step hi (fun K' hK => by rw [if_pos hwi]; exact h1 K' fun a w h1 h2 => hK a w ⟨h1, h2⟩)
  · exact wpOp_step hj (fun K' hK => by rw [if_pos hwj]; exact h2 K' fun a w h1 h2 => hK a w ⟨h1, h2⟩)
end
end Go.Proofs.YtjmopbimleoidaaGreat.Kit
