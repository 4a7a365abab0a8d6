/-
  Contracts: slices.Clone of numbers and of notes, copyOf.
-/
import Derived.Test.YtodmompfnlcjpaaUfC
import Derived.Lib.SliceRun
namespace Go.Proofs.Ytodmompfnlcjpaa.Uf
open Go.RowKit Kit Tr

theorem OwnO.far {w w' : World} {B g : Nat} {A : Option Addr} {cs : List Value} (h : OwnO w B A cs) (hg : w.grownBy w' (some g)) (hB : g < B) : OwnO w' B A cs := fun h0 => by
  obtain ⟨g', e, hb, hc⟩ := h h0
  exact ⟨g', e, hb, hc.grown hg (by simp; omega)⟩
theorem OwnO.rds {w : World} {B : Nat} {A : Option Addr} {cs : List Value} (h : OwnO w B A cs) : Rds w w.heap.size A cs := fun h0 => by
  obtain ⟨g', rfl, _, hc⟩ := h h0
  exact hc.rds h0
theorem OwnO.base {w : World} {B B' : Nat} {A : Option Addr} {cs : List Value} (h : OwnO w B A cs) (hB : B' ≤ B) : OwnO w B' A cs := fun h0 => by
  obtain ⟨g', e, hb, hc⟩ := h h0
  exact ⟨g', e, by omega, hc⟩
theorem own_o {w : World} {base : Nat} {e : TypeId} {size n : Nat} {v : Value} {cs : List Value} (h : w.ownsRow base e size v n cs) : ∃ A c, v = .slice A n c ∧ n ≤ c ∧ OwnO w base A cs := by
  have h2 := h
  obtain ⟨hl, ⟨rfl, h0⟩ | ⟨g, cap, cur, rfl, hg, hh, hc, _⟩⟩ := h
  · exact ⟨none, 0, by rw [h0], by omega, fun h => by rw [hl, h0] at h; simp at h⟩
  · exact ⟨_, cap, rfl, hc, fun _ => ⟨g, rfl, hg, OwnC.of_row h2⟩⟩
/-- a copy: nil, or in a block of its own -/
def CloneP (n : Nat) (cs : List Value) (w : World) (e : Ending) (w' : World) : Prop :=
  ∃ A c, e = .returned (.slice A n c) ∧ n ≤ c ∧ OwnO w' w.heap.size A cs ∧ Q w w'

set_option maxHeartbeats 1000000 in
theorem cloneI (A : Option Addr) (n c : Nat) (l : List Int) (w : World) (hn : n = l.length) (hr : Rds w w.heap.size A (cellsI l)) (hl : l.length ≤ 1000000) :
    Calls Try.prog 43 #[.slice A n c] w (CloneP l.length (cellsI l) w) := by
  subst hn
  have heq := fun u => Lib.run_eql_slice_nil (P := Try.prog) u 22 3 A l.length c 0 0 Try.underlying22
  cases A with
  | none =>
    have e : l = [] := by
      rcases Nat.eq_zero_or_pos l.length with h | h
      · exact List.eq_nil_of_length_eq_zero h
      · obtain ⟨_, e, _⟩ := hr (by rw [cellsI_len]; omega); cases e
    subst e
    have heq' : ∀ u, (binOp .eql 22 (.slice none 0 c) (.slice none 0 0)).run Try.prog u = .ok (.bool true) u := heq
    clear heq hr hl
    go_enter Try.func43, Try.ntmps43
    go_wp2_with fail
    go_ret
    exact ⟨none, 0, rfl, Nat.le_refl _, fun h => by simp [cellsI] at h, Q.refl _⟩
  | some ad =>
    have heq' : ∀ u, (binOp .eql 22 (.slice (some ad) l.length c) (.slice none 0 0)).run Try.prog u = .ok (.bool false) u := heq
    obtain ⟨i0, hi, hz0, hz1, hz2⟩ := info_parts intInfo
    have Hi := Lib.hid hi
    have Hz0 := Lib.hid hz0
    have Hz1 := Lib.hid hz1
    have Hz2 := Lib.hid hz2
    have HsR := Lib.hid (hr.keep ((Q.refl w).alloc (Obj.cells #[] 3)))
    have Ho := Lib.hid (own_empty (base := w.heap.size) (e := 3) (size := 1) (Nat.le_refl _) (heap_alloc_new w (Obj.cells #[] 3)))
    clear heq hi hz0 hz1 hz2 hr
    go_enter Try.func43, Try.ntmps43
    go_wp2_with (at_builtin; refine wpList_append_src _ rfl (.tmp 5) (.tmp 6) _ rfl w.heap.size 3 i0 _ 1 8 Try.underlying22 Hi.out Hz0.out Hz1.out Hz2.out rfl (by omega) (.slice (some ⟨w.heap.size, 0, none⟩) 0 0) 0 [] rfl Ho.out (some ad) l.length c (cellsI l) rfl (by rw [cellsI_len]; try omega) HsR.out.src (cellsI_one l) (by unfold maxLen; omega) (by omega) (by simp) ?_; intro v' w' own' gr' _)
    have q2 : Q w w' := ((Q.refl w).alloc (Obj.cells #[] 3)).grown gr' (by simp) (by simp [Value.ownBlock])
    rw [Nat.zero_add, List.nil_append] at own'
    have Ho' := Lib.hid own'
    clear own' gr'
    go_wp2_with fail
    go_ret
    obtain ⟨A2, c2, rfl, hle, hA2⟩ := own_o Ho'.out
    exact ⟨A2, c2, rfl, hle, hA2, q2⟩

set_option maxHeartbeats 1000000 in
theorem cloneP (A : Option Addr) (n c : Nat) (l : List Note) (w : World) (hn : n = l.length) (hr : Rds w w.heap.size A (cellsP l)) (hl : l.length ≤ 1000000) :
    Calls Try.prog 44 #[.slice A n c] w (CloneP l.length (cellsP l) w) := by
  subst hn
  have heq := fun u => Lib.run_eql_slice_nil (P := Try.prog) u 23 64 A l.length c 0 0 Try.underlying23
  cases A with
  | none =>
    have e : l = [] := by
      rcases Nat.eq_zero_or_pos l.length with h | h
      · exact List.eq_nil_of_length_eq_zero h
      · obtain ⟨_, e, _⟩ := hr (by rw [cellsP_len]; omega); cases e
    subst e
    have heq' : ∀ u, (binOp .eql 23 (.slice none 0 c) (.slice none 0 0)).run Try.prog u = .ok (.bool true) u := heq
    clear heq hr hl
    go_enter Try.func44, Try.ntmps44
    go_wp2_with fail
    go_ret
    exact ⟨none, 0, rfl, Nat.le_refl _, fun h => by simp [cellsP] at h, Q.refl _⟩
  | some ad =>
    have heq' : ∀ u, (binOp .eql 23 (.slice (some ad) l.length c) (.slice none 0 0)).run Try.prog u = .ok (.bool false) u := heq
    obtain ⟨i0, hi, hz0, hz1, hz2⟩ := info_parts noteInfo
    have Hi := Lib.hid hi
    have Hz0 := Lib.hid hz0
    have Hz1 := Lib.hid hz1
    have Hz2 := Lib.hid hz2
    have HsR := Lib.hid (hr.keep ((Q.refl w).alloc (Obj.cells #[] 64)))
    have Ho := Lib.hid (own_empty (base := w.heap.size) (e := 64) (size := 2) (Nat.le_refl _) (heap_alloc_new w (Obj.cells #[] 64)))
    clear heq hi hz0 hz1 hz2 hr
    go_enter Try.func44, Try.ntmps44
    go_wp2_with (at_builtin; refine wpList_append_src _ rfl (.tmp 5) (.tmp 6) _ rfl w.heap.size 64 i0 _ 2 16 Try.underlying23 Hi.out Hz0.out Hz1.out Hz2.out rfl (by omega) (.slice (some ⟨w.heap.size, 0, none⟩) 0 0) 0 [] rfl Ho.out (some ad) l.length c (cellsP l) rfl (by rw [cellsP_len]; try omega) HsR.out.src (cellsP_one l) (by unfold maxLen; omega) (by omega) (by simp) ?_; intro v' w' own' gr' _)
    have q2 : Q w w' := ((Q.refl w).alloc (Obj.cells #[] 64)).grown gr' (by simp) (by simp [Value.ownBlock])
    rw [Nat.zero_add, List.nil_append] at own'
    have Ho' := Lib.hid own'
    clear own' gr'
    go_wp2_with fail
    go_ret
    obtain ⟨A2, c2, rfl, hle, hA2⟩ := own_o Ho'.out
    exact ⟨A2, c2, rfl, hle, hA2, q2⟩

/-- what a call answers: cells, each row nil or in a block of its own -/
structure OutO (w w' : World) (c : Cells) (A : Option Addr) (k1 : Nat) (D : Option Addr) (k2 : Nat) (E : Option Addr) (k3 : Nat) : Prop where
  v : OwnO w' w.heap.size A (cellsI c.V)
  n : OwnO w' w.heap.size D (cellsP c.N)
  m : OwnO w' w.heap.size E (cellsI c.M)
  lv : c.V.length ≤ k1
  ln : c.N.length ≤ k2
  lm : c.M.length ≤ k3
  q : Q w w'
theorem OutO.rd {w w' : World} {c : Cells} {A : Option Addr} {k1 : Nat} {D : Option Addr} {k2 : Nat} {E : Option Addr} {k3 : Nat} (h : OutO w w' c A k1 D k2 E k3) : Rd w' c A k1 D k2 E k3 := ⟨OwnO.rds h.v, OwnO.rds h.n, OwnO.rds h.m, h.lv, h.ln, h.lm⟩
/-- stores into an older box -/
theorem OutO.far {w0 w w' w'' : World} {c : Cells} {A : Option Addr} {k1 : Nat} {D : Option Addr} {k2 : Nat} {E : Option Addr} {k3 B : Nat} (h : OutO w w' c A k1 D k2 E k3) (hq : Q w0 w) (hg : w'.grownBy w'' (some B)) (hB : B < w.heap.size) (hB0 : w0.heap.size ≤ B) : OutO w0 w'' c A k1 D k2 E k3 :=
  ⟨OwnO.base (OwnO.far h.v hg hB) hq.size, OwnO.base (OwnO.far h.n hg hB) hq.size, OwnO.base (OwnO.far h.m hg hB) hq.size, h.lv, h.ln, h.lm, grown_q hg (hq.trans h.q) hB0⟩
theorem OutO.of {w w' : World} {c : Cells} {g1 k1 g2 k2 g3 k3 : Nat} (h : Out w w' c g1 k1 g2 k2 g3 k3) : OutO w w' c (some ⟨g1, 0, none⟩) k1 (some ⟨g2, 0, none⟩) k2 (some ⟨g3, 0, none⟩) k3 :=
  ⟨fun _ => ⟨g1, rfl, h.o1, h.v⟩, fun _ => ⟨g2, rfl, h.o2, h.n⟩, fun _ => ⟨g3, rfl, h.o3, h.m⟩, h.lv, h.ln, h.lm, h.q⟩
def OPost (c : Cells) (w : World) (e : Ending) (w' : World) : Prop :=
  ∃ A k1 D k2 E k3, e = .returned (.agg #[.slice A c.V.length k1, .slice D c.N.length k2, .slice E c.M.length k3]) ∧ OutO w w' c A k1 D k2 E k3

set_option maxRecDepth 100000 in
set_option maxHeartbeats 2000000 in
theorem copyU (c : Cells) (A D E : Option Addr) (n1 k1 n2 k2 n3 k3 : Nat) (w : World) (h1 : n1 = c.V.length) (h2 : n2 = c.N.length) (h3 : n3 = c.M.length) (h : Rd w c A k1 D k2 E k3) (hf : Few c 1000000) :
    Calls Try.prog 28 #[.agg #[.slice A n1 k1, .slice D n2 k2, .slice E n3 k3]] w (OPost c w) := by
  subst h1 h2 h3
  obtain ⟨f1, f2, f3⟩ := hf
  obtain ⟨W0, hW0, q0, hz0, hB, hX⟩ := boxes w (Value.slice A c.V.length k1) (Value.slice D c.N.length k2) (Value.slice E c.M.length k3) 25
  have HB := Lib.hid hB
  have HX := Lib.hid hX
  have HR := Lib.hid (h.q q0)
  have HZ := Lib.hid hz0
  have HW := Lib.hid hW0
  clear h hB hX hz0 hW0
  go_enter Try.func28, Try.ntmps28
  go_upto_region 1 with fail
  rw [← HW.out]
  clear HW
  have HV : Hid (∀ W, Q W0 W → Calls Try.prog 43 #[.slice A c.V.length k1] W (CloneP c.V.length (cellsI c.V) W)) := fun W q => cloneI A _ k1 c.V W rfl (HR.out.v.q q) f1
  have HN : Hid (∀ W, Q W0 W → Calls Try.prog 44 #[.slice D c.N.length k2] W (CloneP c.N.length (cellsP c.N) W)) := fun W q => cloneP D _ k2 c.N W rfl (HR.out.n.q q) f2
  have HM : Hid (∀ W, Q W0 W → Calls Try.prog 43 #[.slice E c.M.length k3] W (CloneP c.M.length (cellsI c.M) W)) := fun W q => cloneI E _ k3 c.M W rfl (HR.out.m.q q) f3
  have c0 := HB.out.c0
  have c1 := HB.out.c1
  have c2 := HB.out.c2
  have hlt0 := HB.out.lt
  go_region_held3 (fun w' => w'.cell? ⟨w.heap.size, 0, none⟩ = some (.slice A c.V.length k1) ∧ w'.cell? ⟨w.heap.size, 1, none⟩ = some (.slice D c.N.length k2) ∧ w'.cell? ⟨w.heap.size, 2, none⟩ = some (.slice E c.M.length k3))
    (first
      | go_keep
      | exact ⟨(p3.cell (p := ⟨w.heap.size, 0, none⟩) hlt0).trans c0, (p3.cell (p := ⟨w.heap.size, 1, none⟩) hlt0).trans c1, (p3.cell (p := ⟨w.heap.size, 2, none⟩) hlt0).trans c2⟩
      | exact ⟨(p2.cell (p := ⟨w.heap.size, 0, none⟩) hlt0).trans c0, (p2.cell (p := ⟨w.heap.size, 1, none⟩) hlt0).trans c1, (p2.cell (p := ⟨w.heap.size, 2, none⟩) hlt0).trans c2⟩
      | exact ⟨(p1.cell (p := ⟨w.heap.size, 0, none⟩) hlt0).trans c0, (p1.cell (p := ⟨w.heap.size, 1, none⟩) hlt0).trans c1, (p1.cell (p := ⟨w.heap.size, 2, none⟩) hlt0).trans c2⟩
      | exact (((HB.out.q p3).far (g := w.heap.size + 1) (by omega) _).far (g := w.heap.size + 1) (by omega) _).far (g := w.heap.size + 1) (by omega) _ |>.three)
    (first
      | (go_at_call 43; (with_reducible refine (HV.out _ (Q.refl W0).drew).mono ?_); rintro e w1 ⟨A1, l1, rfl, hl1, own1, q1⟩; have Own1 := Lib.hid own1; clear own1; have p1 : Q W0 w1 := (Q.refl W0).drew.trans q1)
      | (go_at_call 44; (with_reducible refine (HN.out _ p1).mono ?_); rintro e w2 ⟨A2, l2, rfl, hl2, own2, q2⟩; have Own2 := Lib.hid own2; clear own2; have p2 : Q W0 w2 := p1.trans q2)
      | (go_at_call 43; (with_reducible refine (HM.out _ p2).mono ?_); rintro e w3 ⟨A3, l3, rfl, hl3, own3, q3⟩; have Own3 := Lib.hid own3; clear own3; have p3 : Q W0 w3 := p2.trans q3; have bx := HX.out.q p3; have y0 := bx.c0; have y1 := bx.c1; have y2 := bx.c2; have z0 := bx.f0; have z1 := bx.f1; have z2 := bx.f2))
  clear y0 y1 y2 z0 z1 z2 c0 c1 c2
  have bz := bx.all (.slice A1 c.V.length l1) (.slice A2 c.N.length l2) (.slice A3 c.M.length l3)
  have y0 := bz.c0
  have y1 := bz.c1
  have y2 := bz.c2
  have hgr := Lib.hid (set3_grown w3 (w.heap.size + 1) (.slice A1 c.V.length l1) (.slice A2 c.N.length l2) (.slice A3 c.M.length l3))
  have hz := HZ.out
  have z1 : W0.heap.size ≤ w1.heap.size := p1.size
  have z2 := p2.size
  go_wp2_with fail
  refine bodyPost_ret (v := .agg #[.slice A1 c.V.length l1, .slice A2 c.N.length l2, .slice A3 c.M.length l3]) (by simp [results, Try.f28, go_sem, y0, y1, y2]) rfl ⟨A1, l1, A2, l2, A3, l3, rfl, ?_⟩
  exact ⟨OwnO.base (OwnO.far ((OwnO.q Own1.out q2).q q3) hgr.out (by show w.heap.size + 1 < W0.heap.size; omega)) (by show w.heap.size ≤ W0.heap.size; omega), OwnO.base (OwnO.far (OwnO.q Own2.out q3) hgr.out (by omega)) (by omega), OwnO.base (OwnO.far Own3.out hgr.out (by omega)) (by omega), hl1, hl2, hl3, grown_q hgr.out (q0.trans p3) (by omega)⟩
end Go.Proofs.Ytodmompfnlcjpaa.Uf
