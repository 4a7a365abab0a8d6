/-
  Contracts of the reader's brackets: open, next, end.
-/
import Derived.Test.YtmbdbmjnibfmgaaDoorExprI
import Derived.RegionTactic
namespace Go.Proofs.YtmbdbmjnibfmgaaDoor.Ex
open Go.RowKit Kit Rw
open Go.Proofs.YtmbdbmjnibfmgaaDoor.Nm

set_option maxRecDepth 100000 in
set_option maxHeartbeats 2000000 in
theorem open_full (W0 w : World) (B : Nat) (A : Option Addr) (c : Nat) (toks : List Tg) (p : Nat) (ns : List Tg) (ss : List Lv) (v u : Value) (t : Tg) (h : RS W0 w B A c toks p ns ss v u) (hg : isSg toks p ⟨#[40]⟩ = true) (hs : 40 < ss.length) :
    Calls Tryd.prog 48 #[.pointer (some ⟨B, 0, none⟩), .agg #[.int .i64 t.1, .string t.2.1, .int .i64 t.2.2]] w fun e w' => e = .returned (.tuple #[.bool false, .int .i64 7]) ∧ RS W0 w' B A c toks p ns ss v u := by
  have H1 := Lib.hid (h.more ((Q.refl w).alloc (Obj.cells #[.int .i64 t.1, .string t.2.1, .int .i64 t.2.2] 38)))
  have CS := Lib.hid (isSign_any W0 _ B A c toks p ns ss v u ⟨#[40]⟩ H1.out)
  rw [hg] at CS
  obtain ⟨g, cap, rfl⟩ := own_slice h.stk (by omega)
  have d0 : decide (40 < (ss.length : Int)) = true := decide_eq_true (by omega)
  clear h hg
  go_enter Tryd.func48, Tryd.ntmps48
  go_wp2_with (go_at_call 47; refine CS.out.mono ?_; rintro e w2 ⟨rfl, q2⟩; have H2 := Lib.hid (H1.out.more q2); obtain ⟨b0, b1, b2, b3⟩ := H2.out.cells; clear q2)
  go_ret2
  exact ⟨rfl, H2.out⟩

set_option maxRecDepth 100000 in
set_option maxHeartbeats 4000000 in
theorem open_any (W0 w : World) (B : Nat) (A : Option Addr) (c : Nat) (toks : List Tg) (p : Nat) (ns : List Tg) (ss : List Lv) (v u : Value) (t : Tg) (h : RS W0 w B A c toks p ns ss v u) (hg : isSg toks p ⟨#[40]⟩ = true) (hs : ss.length ≤ 40) (hs0 : 0 < ss.length) (hp : p ≤ 1000000) :
    Calls Tryd.prog 48 #[.pointer (some ⟨B, 0, none⟩), .agg #[.int .i64 t.1, .string t.2.1, .int .i64 t.2.2]] w fun e w' => e = .returned (.tuple #[.bool true, .int .i64 0]) ∧ ∃ u', RS W0 w' B A c toks (p + 1) ns (ss ++ [(t, ⟨#[]⟩)]) v u' := by
  obtain ⟨i0, hi, hz0, hz1, hz2⟩ := info_parts levelInfo
  have Hi := Lib.hid hi
  have Hz0 := Lib.hid hz0
  have Hz1 := Lib.hid hz1
  have Hz2 := Lib.hid hz2
  clear hi hz0 hz1 hz2
  have H1 := Lib.hid (h.more ((Q.refl w).alloc (Obj.cells #[.int .i64 t.1, .string t.2.1, .int .i64 t.2.2] 38)))
  have HX := Lib.hid (own_new w [.int .i64 t.1, .string t.2.1, .int .i64 t.2.2] 38)
  change Hid (OwnC (w.alloc (Obj.cells #[.int .i64 t.1, .string t.2.1, .int .i64 t.2.2] 38)) w.heap.size [.int .i64 t.1, .string t.2.1, .int .i64 t.2.2]) at HX
  have CS := Lib.hid (isSign_any W0 _ B A c toks p ns ss v u ⟨#[40]⟩ H1.out)
  rw [hg] at CS
  obtain ⟨g, cap, rfl⟩ := own_slice h.stk hs0
  have d0 : decide (40 < (ss.length : Int)) = false := decide_eq_false (by omega)
  clear h hg
  go_enter Tryd.func48, Tryd.ntmps48
  go_wp2_with (go_at_call 47; refine CS.out.mono ?_; rintro e w2 ⟨rfl, q2⟩; have H2 := Lib.hid (H1.out.more q2); have HX2 := Lib.hid (HX.out.q q2); obtain ⟨b0, b1, b2, b3⟩ := H2.out.cells; clear q2)
  have x0 := (HX2.out.2 0 _ rfl).1
  have x1 := (HX2.out.2 1 _ rfl).1
  have x2 := (HX2.out.2 2 _ rfl).1
  have H3 := Lib.hid (H2.out.more (((Q.refl w2).alloc (Obj.cells #[.int .i64 t.1, .string t.2.1, .int .i64 t.2.2, .string ⟨#[]⟩] 80)).drew))
  have HS : Hid (Src ((w2.alloc (Obj.cells #[.int .i64 t.1, .string t.2.1, .int .i64 t.2.2, .string ⟨#[]⟩] 80)).drew) (some ⟨w2.heap.size, 0, none⟩) [.int .i64 t.1, .string t.2.1, .int .i64 t.2.2, .string ⟨#[]⟩]) := src_alloc w2 [.int .i64 t.1, .string t.2.1, .int .i64 t.2.2, .string ⟨#[]⟩] 80 (0, 0)
  have b3' : (w2.alloc (Obj.cells #[.int .i64 t.1, .string t.2.1, .int .i64 t.2.2, .string ⟨#[]⟩] 80)).cell? ⟨B, 3, none⟩ = some (.slice (some ⟨g, 0, none⟩) ss.length cap) := H3.out.cells.2.2.2
  go_region_law (refine step_append_src _ rfl (.tmp 21) (.tmp 24) _ rfl W0.heap.size 80 i0 _ 4 48 Tryd.underlying59 Hi.out Hz0.out Hz1.out Hz2.out rfl (by omega) (.slice (some ⟨g, 0, none⟩) ss.length cap) ss.length (cellsV ss) rfl H3.out.stk (some ⟨w2.heap.size, 0, none⟩) 1 1 [.int .i64 t.1, .string t.2.1, .int .i64 t.2.2, .string ⟨#[]⟩] rfl rfl HS.out (by simp [Value.oneCell']) (by unfold maxLen; omega) (by omega) H3.out.q.size ?_; intro v' w' own' gr' bl'; obtain ⟨g', cap', rfl⟩ := own_slice own' (by omega); have HA : Hid (RS W0 (w'.setCell ⟨B, 3, none⟩ (.slice (some ⟨g', 0, none⟩) (ss.length + 1) cap')) B A c toks p ns (ss ++ [(t, ⟨#[]⟩)]) v (.slice (some ⟨g', 0, none⟩) (ss.length + 1) cap')) := H3.out.addLevel (xs := [(t, ⟨#[]⟩)]) own' gr' bl'; have hb' := H3.out.box.grown gr' H3.out.uB; have k1 := (hb'.2 3 _ rfl).1; have k2 := (hb'.2 3 _ rfl).2; clear own' gr' bl' hb')
  all_goals
    obtain ⟨d0, d1, d2, d3⟩ := HA.out.cells
    obtain ⟨e1, e2, e3⟩ := HA.out.thaw
    have HB := Lib.hid (HA.out.setAt (p + 1))
    clear HA H1 H2 H3 HS k1 k2 b0 b1 b2 b3 b3' x0 x1 x2
    generalize w'.setCell ⟨B, 3, none⟩ (.slice (some ⟨g', 0, none⟩) (ss.length + 1) cap') = W2 at *
    go_wp2_with fail
    go_ret2
    exact ⟨rfl, _, HB.out⟩

set_option maxRecDepth 100000 in
set_option maxHeartbeats 4000000 in
theorem next_any (W0 w : World) (B : Nat) (A : Option Addr) (c : Nat) (toks : List Tg) (p : Nat) (ns : List Tg) (bs : List Lv) (nm s : ByteArray) (m : Nat) (v : Value) (g cap : Nat) (h : RS W0 w B A c toks p ns (bs ++ [((3, nm, (m : Int)), s)]) v (.slice (some ⟨g, 0, none⟩) (bs.length + 1) cap)) (hm : m < 8) (hp : p ≤ 1000000) :
    Calls Tryd.prog 54 #[.pointer (some ⟨B, 0, none⟩), .pointer (some ⟨g, bs.length * 4, none⟩)] w fun e w' => e = .returned (.int .i64 0) ∧ RS W0 w' B A c toks (p + 1) ns (bs ++ [((3, nm, ((m + 1 : Nat) : Int)), ⟨#[]⟩)]) v (.slice (some ⟨g, 0, none⟩) (bs.length + 1) cap) := by
  obtain ⟨g', cap', e, hc, hgB, hgl, t0, t1, t2, t3, hf⟩ := h.top
  injection e with e1 e2 e3
  injection e1 with e1
  injection e1 with e1
  subst e1 e3
  have f0 := hf (bs.length * 4)
  have f1 := hf (bs.length * 4 + 1)
  have f2 := hf (bs.length * 4 + 2)
  have f3 := hf (bs.length * 4 + 3)
  have H1 := h.setLevel (k := 0) (x := .int .i64 3) (lv' := ((3, nm, (m : Int)), s)) rfl (by omega)
  have H2 := H1.setLevel (k := 1) (x := .string nm) (lv' := ((3, nm, (m : Int)), s)) rfl (by omega)
  have H3 := H2.setLevel (k := 2) (x := .int .i64 ((m + 1 : Nat) : Int)) (lv' := ((3, nm, ((m + 1 : Nat) : Int)), s)) rfl (by omega)
  have H4 := H3.setLevel (k := 3) (x := .string ⟨#[]⟩) (lv' := ((3, nm, ((m + 1 : Nat) : Int)), ⟨#[]⟩)) rfl (by omega)
  have HA : Hid (RS W0 ((((w.setCell ⟨g, bs.length * 4, none⟩ (.int .i64 3)).setCell ⟨g, bs.length * 4 + 1, none⟩ (.string nm)).setCell ⟨g, bs.length * 4 + 2, none⟩ (.int .i64 ((m : Int) + 1))).setCell ⟨g, bs.length * 4 + 3, none⟩ (.string ⟨#[]⟩)) B A c toks p ns (bs ++ [((3, nm, ((m + 1 : Nat) : Int)), ⟨#[]⟩)]) v (.slice (some ⟨g, 0, none⟩) (bs.length + 1) cap)) := H4
  clear h H1 H2 H3 H4 hf
  have dm : ((m : Int) == 8) = false := beq_eq_false_iff_ne.2 (by omega)
  go_enter Tryd.func54, Tryd.ntmps54
  go_wp2_with fail
  go_region
  obtain ⟨d0, d1, d2, d3⟩ := HA.out.cells
  obtain ⟨e1, e2, e3⟩ := HA.out.thaw
  have HB := Lib.hid (HA.out.setAt (p + 1) |>.more (Q.refl _).drew)
  have HB2 := Lib.hid ((HA.out.more (Q.refl _).drew).setAt (p + 1))
  clear HA t0 t1 t2 t3 f0 f1 f2 f3
  generalize (((w.setCell ⟨g, bs.length * 4, none⟩ (.int .i64 3)).setCell ⟨g, bs.length * 4 + 1, none⟩ (.string nm)).setCell ⟨g, bs.length * 4 + 2, none⟩ (.int .i64 ((m : Int) + 1))).setCell ⟨g, bs.length * 4 + 3, none⟩ (.string ⟨#[]⟩) = W2 at *
  go_wp2_with fail
  go_ret
  exact ⟨rfl, by first | exact HB2.out | exact HB.out⟩

theorem slice_toL (A : Option Addr) (n c l : Nat) (i : Int) (hi : i = l) (h : l ≤ c) (u : World) : (Instr.slice 59 (.slice A n c) none (some (.int .i64 i)) none).run Tryd.prog u = .ok (.slice A l c) u := by
  subst hi
  obtain ⟨i0, hi, hz0, hz1, hz2⟩ := info_parts levelInfo
  simp [Instr.slice, run_underlying Tryd.underlying59, Instr.sliceBounds, Instr.sliceBound, asIntOf, sizeOf, typeInfo, hi, h, Addr.add]
def endN (t : Tg) : List Tg := if t.1 = 3 ∨ t.1 = 6 then [t] else []
set_option maxRecDepth 100000 in
set_option maxHeartbeats 4000000 in
theorem end_none (W0 w : World) (B : Nat) (A : Option Addr) (c : Nat) (toks : List Tg) (p : Nat) (ns : List Tg) (bs : List Lv) (lv : Lv) (v u : Value) (t : Tg) (h : RS W0 w B A c toks p ns (bs ++ [lv]) v u) (h3 : t.1 ≠ 3) (h6 : t.1 ≠ 6) (hp : p ≤ 1000000) (hbl : bs.length ≤ 1000000) :
    Calls Tryd.prog 55 #[.pointer (some ⟨B, 0, none⟩), .agg #[.int .i64 t.1, .string t.2.1, .int .i64 t.2.2]] w fun e w' => e = .returned (.tuple #[]) ∧ ∃ u', RS W0 w' B A c toks (p + 1) ns bs v u' := by
  have H1 := Lib.hid (h.more ((Q.refl w).alloc (Obj.cells #[.int .i64 t.1, .string t.2.1, .int .i64 t.2.2] 38)))
  obtain ⟨g, cap, rfl, hc, hgB, hgl, _⟩ := h.top
  have e3 : (t.1 == 3) = false := beq_eq_false_iff_ne.2 h3
  have e6 : (t.1 == 6) = false := beq_eq_false_iff_ne.2 h6
  have e1 : ((bs.length + 1 : Nat) : Int) - 1 = (bs.length : Int) := by omega
  have HA := Lib.hid H1.out.pop
  have hsl := slice_toL (some ⟨g, 0, none⟩) (bs.length + 1) cap bs.length bs.length rfl (by omega)
  obtain ⟨b0, b1, b2, b3⟩ := H1.out.cells
  obtain ⟨k1, k2, k3⟩ := H1.out.thaw
  clear h h3 h6
  go_enter Tryd.func55, Tryd.ntmps55
  go_wp2_with fail
  go_region
  obtain ⟨d0, d1, d2, d3⟩ := HA.out.cells
  obtain ⟨x1, x2, x3⟩ := HA.out.thaw
  have HB2 := Lib.hid ((HA.out.more (Q.refl _).drew).setAt (p + 1))
  clear HA H1 hsl b0 b1 b2 b3 k1 k2 k3
  generalize (w.alloc (Obj.cells #[.int .i64 t.1, .string t.2.1, .int .i64 t.2.2] 38)).setCell ⟨B, 3, none⟩ (.slice (some ⟨g, 0, none⟩) bs.length cap) = W2 at *
  go_wp2_with fail
  go_end0
  exact ⟨rfl, _, HB2.out⟩

set_option maxRecDepth 100000 in
set_option maxHeartbeats 4000000 in
theorem end_some (W0 w : World) (B : Nat) (A : Option Addr) (c : Nat) (toks : List Tg) (p : Nat) (ns : List Tg) (bs : List Lv) (lv : Lv) (v u : Value) (t : Tg) (h : RS W0 w B A c toks p ns (bs ++ [lv]) v u) (h36 : t.1 = 3 ∨ t.1 = 6) (hp : p ≤ 1000000) (hbl : bs.length ≤ 1000000) (hn : ns.length ≤ 1000000) :
    Calls Tryd.prog 55 #[.pointer (some ⟨B, 0, none⟩), .agg #[.int .i64 t.1, .string t.2.1, .int .i64 t.2.2]] w fun e w' => e = .returned (.tuple #[]) ∧ ∃ v' u', RS W0 w' B A c toks (p + 1) (ns ++ [t]) bs v' u' := by
  obtain ⟨i0, hi, hz0, hz1, hz2⟩ := info_parts nodeInfo
  have Hi := Lib.hid hi
  have Hz0 := Lib.hid hz0
  have Hz1 := Lib.hid hz1
  have Hz2 := Lib.hid hz2
  clear hi hz0 hz1 hz2
  have q1 := (Q.refl w).alloc (Obj.cells #[.int .i64 t.1, .string t.2.1, .int .i64 t.2.2] 38)
  have H1 := Lib.hid (h.more q1)
  have H2 := Lib.hid (h.more ((q1.alloc (Obj.cells #[.int .i64 t.1, .string t.2.1, .int .i64 t.2.2] 38)).drew))
  obtain ⟨g, cap, rfl, hc, hgB, hgl, _⟩ := h.top
  have HS : Hid (Src (((w.alloc (Obj.cells #[.int .i64 t.1, .string t.2.1, .int .i64 t.2.2] 38)).alloc (Obj.cells #[.int .i64 t.1, .string t.2.1, .int .i64 t.2.2] 38)).drew) (some ⟨w.heap.size + 1, 0, none⟩) [.int .i64 t.1, .string t.2.1, .int .i64 t.2.2]) := by
    have := src_alloc (w.alloc (Obj.cells #[.int .i64 t.1, .string t.2.1, .int .i64 t.2.2] 38)) [.int .i64 t.1, .string t.2.1, .int .i64 t.2.2] 38 (0, 0)
    have e : (w.alloc (Obj.cells #[.int .i64 t.1, .string t.2.1, .int .i64 t.2.2] 38)).heap.size = w.heap.size + 1 := by simp
    rw [e] at this
    exact this
  have e1 : ((bs.length + 1 : Nat) : Int) - 1 = (bs.length : Int) := by omega
  have hsl := slice_toL (some ⟨g, 0, none⟩) (bs.length + 1) cap bs.length bs.length rfl (by omega)
  obtain ⟨b0, b1, b2, b3⟩ := H1.out.cells
  have b2' : ((w.alloc (Obj.cells #[.int .i64 t.1, .string t.2.1, .int .i64 t.2.2] 38)).alloc (Obj.cells #[.int .i64 t.1, .string t.2.1, .int .i64 t.2.2] 38)).cell? ⟨B, 2, none⟩ = some v := H2.out.cells.2.2.1
  have hd : (t.1 == 3) = true ∨ ((t.1 == 3) = false ∧ (t.1 == 6) = true) := by
    by_cases h3 : t.1 = 3
    · exact .inl (beq_iff_eq.2 h3)
    · exact .inr ⟨beq_eq_false_iff_ne.2 h3, beq_iff_eq.2 (by omega)⟩
  clear q1 h h36
  rcases hd with hd | ⟨hd, hd6⟩
  all_goals
    go_enter Tryd.func55, Tryd.ntmps55
    go_wp2_with fail
    go_region_law (refine step_append_src _ rfl (.tmp 16) (.tmp 18) _ rfl W0.heap.size 38 i0 _ 3 32 Tryd.underlying22 Hi.out Hz0.out Hz1.out Hz2.out rfl (by omega) v ns.length (cellsG ns) rfl H2.out.nod (some ⟨w.heap.size + 1, 0, none⟩) 1 1 [.int .i64 t.1, .string t.2.1, .int .i64 t.2.2] rfl rfl HS.out (by simp [Value.oneCell']) (by unfold maxLen; omega) (by omega) H2.out.q.size ?_; intro v' w' own' gr' bl'; obtain ⟨g', cap', rfl⟩ := own_slice own' (by omega); have HA : Hid (RS W0 (w'.setCell ⟨B, 2, none⟩ (.slice (some ⟨g', 0, none⟩) (ns.length + 1) cap')) B A c toks p (ns ++ [t]) (bs ++ [lv]) (.slice (some ⟨g', 0, none⟩) (ns.length + 1) cap') (.slice (some ⟨g, 0, none⟩) (bs.length + 1) cap)) := H2.out.addNodes (xs := [t]) own' gr' bl'; have hb' := H2.out.box.grown gr' H2.out.vB; have k1 := (hb'.2 2 _ rfl).1; have k2 := (hb'.2 2 _ rfl).2; clear own' gr' bl' hb')
    all_goals
      obtain ⟨d0, d1, d2, d3⟩ := HA.out.cells
      obtain ⟨x1, x2, x3⟩ := HA.out.thaw
      have HP := Lib.hid HA.out.pop
      clear HA H1 H2 HS k1 k2 b0 b1 b2 b3 b2'
      generalize w'.setCell ⟨B, 2, none⟩ (.slice (some ⟨g', 0, none⟩) (ns.length + 1) cap') = W2 at *
      go_wp2_with fail
      go_region
      obtain ⟨d0, d1, d2, d3⟩ := HP.out.cells
      obtain ⟨x1, x2, x3⟩ := HP.out.thaw
      have HB2 := Lib.hid ((HP.out.more (Q.refl _).drew).setAt (p + 1))
      clear HP hsl
      generalize W2.setCell ⟨B, 3, none⟩ (.slice (some ⟨g, 0, none⟩) bs.length cap) = W3 at *
      go_wp2_with fail
      go_end0
      exact ⟨rfl, _, _, HB2.out⟩
end Go.Proofs.YtmbdbmjnibfmgaaDoor.Ex
