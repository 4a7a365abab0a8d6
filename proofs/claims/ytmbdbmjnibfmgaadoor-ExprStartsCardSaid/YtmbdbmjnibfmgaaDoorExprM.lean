/-
  Contracts of the reader's parts: proj, con.
  Contract of the reader's part.
  Contracts of the reader's part: a leaf, or what begins with a constructor's name.
-/
import Derived.Test.YtmbdbmjnibfmgaaDoorExprJ
import Derived.Deep.RegionHeld3
namespace Go.Proofs.YtmbdbmjnibfmgaaDoor.Ex
open Go.RowKit Kit Rw
open Go.Proofs.YtmbdbmjnibfmgaaDoor.Nm

/-- what reading a bracket that opens comes to: a level more, or too many -/
def OpenR (W0 : World) (B : Nat) (A : Option Addr) (c : Nat) (toks : List Tg) (p : Nat) (ns : List Tg) (ss : List Lv) (v : Value) (t : Tg) (b : Bool) (er : Int) (w' : World) : Prop :=
  (ss.length ≤ 40 ∧ b = true ∧ er = 0 ∧ ∃ u', RS W0 w' B A c toks (p + 1) ns (ss ++ [(t, ⟨#[]⟩)]) v u') ∨ (40 < ss.length ∧ b = false ∧ er = 7 ∧ ∃ u', RS W0 w' B A c toks p ns ss v u')
theorem openR_any (W0 w : World) (B : Nat) (A : Option Addr) (c : Nat) (toks : List Tg) (p : Nat) (ns : List Tg) (ss : List Lv) (v u : Value) (t : Tg) (h : RS W0 w B A c toks p ns ss v u) (hg : isSg toks p ⟨#[40]⟩ = true) (hs0 : 0 < ss.length) (hp : p ≤ 1000000) :
    Calls Tryd.prog 48 #[.pointer (some ⟨B, 0, none⟩), .agg #[.int .i64 t.1, .string t.2.1, .int .i64 t.2.2]] w fun e w' => ∃ b er, e = .returned (.tuple #[.bool b, .int .i64 er]) ∧ OpenR W0 B A c toks p ns ss v t b er w' := by
  by_cases hs : ss.length ≤ 40
  · refine (open_any W0 w B A c toks p ns ss v u t h hg hs hs0 hp).mono ?_
    rintro e w' ⟨rfl, h⟩
    exact ⟨_, _, rfl, .inl ⟨hs, rfl, rfl, h⟩⟩
  · refine (open_full W0 w B A c toks p ns ss v u t h hg (by omega)).mono ?_
    rintro e w' ⟨rfl, h⟩
    exact ⟨_, _, rfl, .inr ⟨by omega, rfl, rfl, _, h⟩⟩

set_option maxRecDepth 100000 in
set_option maxHeartbeats 4000000 in
theorem proj_any (W0 w : World) (B : Nat) (A : Option Addr) (c : Nat) (toks : List Tg) (p : Nat) (ns : List Tg) (ss : List Lv) (v u : Value) (nm s : ByteArray) (n : Nat) (h : RS W0 w B A c toks p ns ss v u) (hp : p < toks.length)
    (hk : toks[p].1 = 2) (ht : toks[p].2.1 = s) (hsz : s.size ≤ 1000000) (hn : Lx.numOf s.data.toList = some n) (h1 : 1 ≤ n) (h8 : n ≤ 8) (hg : isSg toks (p + 1) ⟨#[40]⟩ = true) (hs0 : 0 < ss.length) (hl : toks.length ≤ 100000) :
    Calls Tryd.prog 65 #[.pointer (some ⟨B, 0, none⟩), .string nm] w fun e w' => ∃ b er, e = .returned (.tuple #[.bool b, .int .i64 er]) ∧ OpenR W0 B A c toks (p + 1) ns ss v (6, nm, (n : Int)) b er w' := by
  obtain ⟨b0, b1, _, _⟩ := h.cells
  have H := Lib.hid h
  obtain ⟨ad, rfl, hb, c0, c1, c2⟩ := tok_at h.tk hp
  rw [hk] at c0
  rw [ht] at c1
  have CN : Hid (∀ W : World, Calls Tryd.prog 70 #[.string s] W fun e w' => e = .returned (.tuple #[.int .i64 (n : Int), .bool true]) ∧ Q W w') := fun W => by
    have := Lx.number_any s W hsz
    unfold Lx.NumPost at this
    rw [hn] at this
    exact this
  have CP : Hid (∀ W : World, Calls Tryd.prog 56 #[.int .i64 (n : Int)] W fun e w' => e = .returned (.bool true) ∧ W = w') := fun W => by
    have := isPart_any (n : Int) W
    rwa [show partB (n : Int) = true by simp [partB]; omega] at this
  have CO := Lib.hid (fun (W : World) (v u : Value) (h : RS W0 W B (some ad) c toks (p + 1) ns ss v u) => openR_any W0 W B (some ad) c toks (p + 1) ns ss v u (6, nm, (n : Int)) h hg hs0 (by omega))
  have d0 : ((p : Int) == (toks.length : Int)) = false := beq_eq_false_iff_ne.2 (by omega)
  clear h hk ht hn hg
  go_enter Tryd.func65, Tryd.ntmps65
  go_wp2_with fail
  go_quiet (fail)
  go_wp2_with fail
  go_region_held3 (fun w' => w'.cell? ⟨B, 0, none⟩ = some (.slice (some ad) toks.length c) ∧ w'.cell? ⟨B, 1, none⟩ = some (.int .i64 (p : Int)) ∧ w'.cell? ⟨(ad.add (p * 3)).block, (ad.add (p * 3)).off + 1, none⟩ = some (.string s))
    (first
      | go_keep
      | exact ⟨(p1.cell (p := ⟨B, 0, none⟩) H.out.box.1).trans b0, (p1.cell (p := ⟨B, 1, none⟩) H.out.box.1).trans b1, (p1.cell (p := ⟨(ad.add (p * 3)).block, (ad.add (p * 3)).off + 1, none⟩) (by show (ad.add (p * 3)).block < _; rw [add_block]; exact Nat.lt_of_lt_of_le hb H.out.q.size)).trans c1⟩)
    (first
      | (go_at_call 70; refine (CN.out _).mono ?_; rintro e w1 ⟨rfl, q1⟩; have p1 := ((Q.refl w).drewN _).drew.trans q1))
  have H1 := Lib.hid (H.out.more p1)
  obtain ⟨d0, d1, d2, d3⟩ := H1.out.cells
  obtain ⟨e1, e2, e3⟩ := H1.out.thaw
  have H2 := Lib.hid (H1.out.setAt (p + 1))
  clear p1 q1 H b0 b1 c0 c1 c2
  go_wp2_with (first
    | (go_at_call 56; refine (CP.out _).mono ?_; rintro e w2 ⟨rfl, rfl⟩)
    | (go_at_call 48; refine (CO.out _ v u H2.out).mono ?_; rintro e w3 ⟨b, er, rfl, hR⟩))
  go_ret2
  exact ⟨b, er, rfl, hR⟩

set_option maxRecDepth 100000 in
set_option maxHeartbeats 4000000 in
theorem con_open (W0 w : World) (B : Nat) (A : Option Addr) (c : Nat) (toks : List Tg) (p : Nat) (ns : List Tg) (ss : List Lv) (v u : Value) (nm : ByteArray) (h : RS W0 w B A c toks p ns ss v u)
    (hg : isSg toks (p + 1) ⟨#[40]⟩ = true) (hs0 : 0 < ss.length) (hp : p ≤ 100000) :
    Calls Tryd.prog 52 #[.pointer (some ⟨B, 0, none⟩), .string nm] w fun e w' => ∃ b er, e = .returned (.tuple #[.bool b, .int .i64 er]) ∧ OpenR W0 B A c toks (p + 1) ns ss v (3, nm, 1) b er w' := by
  obtain ⟨b0, b1, _, _⟩ := h.cells
  obtain ⟨e1, _, _⟩ := h.thaw
  have H1 := Lib.hid (h.setAt (p + 1))
  have CS := Lib.hid (isSign_any W0 _ B A c toks (p + 1) ns ss v u ⟨#[40]⟩ H1.out)
  rw [hg] at CS
  have CO := Lib.hid (fun (W : World) (h : RS W0 W B A c toks (p + 1) ns ss v u) => openR_any W0 W B A c toks (p + 1) ns ss v u (3, nm, 1) h hg hs0 (by omega))
  clear h hg
  go_enter Tryd.func52, Tryd.ntmps52
  go_wp2_with (first
    | (go_at_call 47; refine CS.out.mono ?_; rintro e w2 ⟨rfl, q2⟩; have H2 := Lib.hid (H1.out.more q2); clear q2)
    | (go_at_call 48; refine (CO.out _ H2.out).mono ?_; rintro e w3 ⟨b, er, rfl, hR⟩))
  go_ret2
  exact ⟨b, er, rfl, hR⟩

set_option maxRecDepth 100000 in
set_option maxHeartbeats 4000000 in
theorem con_proj (W0 w : World) (B : Nat) (A : Option Addr) (c : Nat) (toks : List Tg) (p : Nat) (ns : List Tg) (ss : List Lv) (v u : Value) (nm s : ByteArray) (n : Nat) (h : RS W0 w B A c toks p ns ss v u)
    (hg1 : isSg toks (p + 1) ⟨#[40]⟩ = false) (hg2 : isSg toks (p + 1) ⟨#[126]⟩ = true) (hp : p + 2 < toks.length)
    (hk : toks[p + 2].1 = 2) (ht : toks[p + 2].2.1 = s) (hsz : s.size ≤ 1000000) (hn : Lx.numOf s.data.toList = some n) (h1 : 1 ≤ n) (h8 : n ≤ 8) (hg : isSg toks (p + 3) ⟨#[40]⟩ = true) (hs0 : 0 < ss.length) (hl : toks.length ≤ 100000) :
    Calls Tryd.prog 52 #[.pointer (some ⟨B, 0, none⟩), .string nm] w fun e w' => ∃ b er, e = .returned (.tuple #[.bool b, .int .i64 er]) ∧ OpenR W0 B A c toks (p + 3) ns ss v (6, nm, (n : Int)) b er w' := by
  obtain ⟨b0, b1, _, _⟩ := h.cells
  obtain ⟨e1, _, _⟩ := h.thaw
  have H1 : Hid (RS W0 (w.setCell ⟨B, 1, none⟩ (.int .i64 ((p : Int) + 1))) B A c toks (p + 1) ns ss v u) := h.setAt (p + 1)
  have CS : Hid (∀ W : World, RS W0 W B A c toks (p + 1) ns ss v u → Calls Tryd.prog 47 #[.pointer (some ⟨B, 0, none⟩), .string ⟨#[40]⟩] W fun e w' => e = .returned (.bool false) ∧ Q W w') := fun W h => by
    have := isSign_any W0 W B A c toks (p + 1) ns ss v u ⟨#[40]⟩ h
    rwa [hg1] at this
  have CT : Hid (∀ W : World, RS W0 W B A c toks (p + 1) ns ss v u → Calls Tryd.prog 47 #[.pointer (some ⟨B, 0, none⟩), .string ⟨#[126]⟩] W fun e w' => e = .returned (.bool true) ∧ Q W w') := fun W h => by
    have := isSign_any W0 W B A c toks (p + 1) ns ss v u ⟨#[126]⟩ h
    rwa [hg2] at this
  have CP := Lib.hid (fun (W : World) (h : RS W0 W B A c toks (p + 2) ns ss v u) => proj_any W0 W B A c toks (p + 2) ns ss v u nm s n h hp hk ht hsz hn h1 h8 hg hs0 hl)
  clear h hg hg1 hg2 hk ht hn
  go_enter Tryd.func52, Tryd.ntmps52
  go_wp2_with (first
    | (go_at_call 47; (with_reducible refine (CS.out _ H1.out).mono ?_); rintro e w2 ⟨rfl, q2⟩; have H2 := Lib.hid (H1.out.more q2); clear q2)
    | (go_at_call 47; (with_reducible refine (CT.out _ H2.out).mono ?_); rintro e w3 ⟨rfl, q3⟩; have H3 := Lib.hid (H2.out.more q3); obtain ⟨d0, d1, d2, d3⟩ := H3.out.cells; obtain ⟨x1, x2, x3⟩ := H3.out.thaw; have H4 := Lib.hid (H3.out.setAt (p + 2)); clear q3)
    | (go_at_call 65; refine (CP.out _ H4.out).mono ?_; rintro e w4 ⟨b, er, rfl, hR⟩))
  go_ret2
  exact ⟨b, er, rfl, hR⟩

set_option maxRecDepth 100000 in
set_option maxHeartbeats 4000000 in
theorem con_leaf (W0 w : World) (B : Nat) (A : Option Addr) (c : Nat) (toks : List Tg) (p : Nat) (ns : List Tg) (ss : List Lv) (v u : Value) (nm : ByteArray) (h : RS W0 w B A c toks p ns ss v u)
    (hg1 : isSg toks (p + 1) ⟨#[40]⟩ = false) (hg2 : isSg toks (p + 1) ⟨#[126]⟩ = false) (hp : p ≤ 100000) (hn : ns.length ≤ 1000000) :
    Calls Tryd.prog 52 #[.pointer (some ⟨B, 0, none⟩), .string nm] w fun e w' => e = .returned (.tuple #[.bool false, .int .i64 0]) ∧ ∃ v', RS W0 w' B A c toks (p + 1) (ns ++ [(3, nm, 0)]) ss v' u := by
  obtain ⟨i0, hi, hz0, hz1, hz2⟩ := info_parts nodeInfo
  have Hi := Lib.hid hi
  have Hz0 := Lib.hid hz0
  have Hz1 := Lib.hid hz1
  have Hz2 := Lib.hid hz2
  clear hi hz0 hz1 hz2
  obtain ⟨b0, b1, _, _⟩ := h.cells
  obtain ⟨e1, _, _⟩ := h.thaw
  have H1 : Hid (RS W0 (w.setCell ⟨B, 1, none⟩ (.int .i64 ((p : Int) + 1))) B A c toks (p + 1) ns ss v u) := h.setAt (p + 1)
  have CS : Hid (∀ W : World, RS W0 W B A c toks (p + 1) ns ss v u → Calls Tryd.prog 47 #[.pointer (some ⟨B, 0, none⟩), .string ⟨#[40]⟩] W fun e w' => e = .returned (.bool false) ∧ Q W w') := fun W h => by
    have := isSign_any W0 W B A c toks (p + 1) ns ss v u ⟨#[40]⟩ h
    rwa [hg1] at this
  have CT : Hid (∀ W : World, RS W0 W B A c toks (p + 1) ns ss v u → Calls Tryd.prog 47 #[.pointer (some ⟨B, 0, none⟩), .string ⟨#[126]⟩] W fun e w' => e = .returned (.bool false) ∧ Q W w') := fun W h => by
    have := isSign_any W0 W B A c toks (p + 1) ns ss v u ⟨#[126]⟩ h
    rwa [hg2] at this
  clear h hg1 hg2
  go_enter Tryd.func52, Tryd.ntmps52
  go_wp2_with (first
    | (go_at_call 47; (with_reducible refine (CS.out _ H1.out).mono ?_); rintro e w2 ⟨rfl, q2⟩; have H2 := Lib.hid (H1.out.more q2); clear q2)
    | (go_at_call 47; (with_reducible refine (CT.out _ H2.out).mono ?_); rintro e w3 ⟨rfl, q3⟩; have H3 := Lib.hid (H2.out.more q3); obtain ⟨d0, d1, d2, d3⟩ := H3.out.cells; have H4 := Lib.hid (H3.out.more ((Q.refl w3).alloc (Obj.cells #[.int .i64 3, .string nm, .int .i64 0] 38))); have HS := Lib.hid (src_alloc w3 [.int .i64 3, .string nm, .int .i64 0] 38 (0, 0)); clear q3)
    | (at_builtin; refine wpList_append_src _ rfl (.tmp 41) (.tmp 44) _ rfl W0.heap.size 38 i0 _ 3 32 Tryd.underlying22 Hi.out Hz0.out Hz1.out Hz2.out rfl (by omega) v ns.length (cellsG ns) rfl H4.out.nod (some ⟨w3.heap.size, 0, none⟩) 1 1 [.int .i64 3, .string nm, .int .i64 0] rfl rfl HS.out (by simp [Value.oneCell']) (by unfold maxLen; omega) (by omega) H4.out.q.size ?_; intro v' w' own' gr' bl'; obtain ⟨g', cap', rfl⟩ := own_slice own' (by omega); have HA : Hid (RS W0 (w'.setCell ⟨B, 2, none⟩ (.slice (some ⟨g', 0, none⟩) (ns.length + 1) cap')) B A c toks (p + 1) (ns ++ [(3, nm, 0)]) ss (.slice (some ⟨g', 0, none⟩) (ns.length + 1) cap') u) := H4.out.addNodes (xs := [(3, nm, 0)]) own' gr' bl'; have hb' := H4.out.box.grown gr' H4.out.vB; have k1 := (hb'.2 2 _ rfl).1; have k2 := (hb'.2 2 _ rfl).2; clear own' gr' bl' hb'))
  go_ret2
  exact ⟨rfl, _, HA.out⟩
end Go.Proofs.YtmbdbmjnibfmgaaDoor.Ex

namespace Go.Proofs.YtmbdbmjnibfmgaaDoor.Ex
open Go.RowKit Kit Rw
open Go.Proofs.YtmbdbmjnibfmgaaDoor.Nm

set_option maxRecDepth 100000 in
set_option maxHeartbeats 2000000 in
theorem part_over (W0 w : World) (B : Nat) (A : Option Addr) (c : Nat) (toks : List Tg) (ns : List Tg) (ss : List Lv) (v u : Value) (h : RS W0 w B A c toks toks.length ns ss v u) :
    Calls Tryd.prog 24 #[.pointer (some ⟨B, 0, none⟩)] w fun e w' => e = .returned (.tuple #[.bool false, .int .i64 2]) ∧ RS W0 w' B A c toks toks.length ns ss v u := by
  obtain ⟨b0, b1, _, _⟩ := h.cells
  have H := Lib.hid h
  clear h
  go_enter Tryd.func24, Tryd.ntmps24
  go_wp2_with fail
  go_quiet (fail)
  go_wp2_with fail
  go_ret2
  exact ⟨rfl, H.out.more ((Q.refl w).drewN _)⟩

/-- the walk up to the switch: the token in a box of its own -/
theorem tok_box (w : World) (k : Int) (s : ByteArray) (q : Int) : Q w (w.alloc (Obj.cells #[.int .i64 k, .string s, .int .i64 q] 45)) ∧ OwnC (w.alloc (Obj.cells #[.int .i64 k, .string s, .int .i64 q] 45)) w.heap.size [.int .i64 k, .string s, .int .i64 q] :=
  ⟨(Q.refl w).alloc _, own_new w [.int .i64 k, .string s, .int .i64 q] 45⟩
set_option maxRecDepth 100000 in
set_option maxHeartbeats 4000000 in
theorem part_brack (W0 w : World) (B : Nat) (A : Option Addr) (c : Nat) (toks : List Tg) (p : Nat) (ns : List Tg) (ss : List Lv) (v u : Value) (h : RS W0 w B A c toks p ns ss v u) (hp : p < toks.length) (hg : isSg toks p ⟨#[40]⟩ = true) (hs0 : 0 < ss.length) (hl : toks.length ≤ 100000) :
    Calls Tryd.prog 24 #[.pointer (some ⟨B, 0, none⟩)] w fun e w' => ∃ b er, e = .returned (.tuple #[.bool b, .int .i64 er]) ∧ OpenR W0 B A c toks p ns ss v (0, ⟨#[]⟩, 0) b er w' := by
  obtain ⟨b0, b1, _, _⟩ := h.cells
  obtain ⟨ad, rfl, hb, c0, c1, c2⟩ := tok_at h.tk hp
  have hb' : ad.block < w.heap.size := Nat.lt_of_lt_of_le hb h.q.size
  have d0 : ((p : Int) == (toks.length : Int)) = false := beq_eq_false_iff_ne.2 (by omega)
  have CS : Hid (∀ W : World, RS W0 W B (some ad) c toks p ns ss v u → Calls Tryd.prog 47 #[.pointer (some ⟨B, 0, none⟩), .string ⟨#[40]⟩] W fun e w' => e = .returned (.bool true) ∧ Q W w') := fun W h => by
    have := isSign_any W0 W B (some ad) c toks p ns ss v u ⟨#[40]⟩ h
    rwa [hg] at this
  have CO := Lib.hid (fun (W : World) (h : RS W0 W B (some ad) c toks p ns ss v u) => openR_any W0 W B (some ad) c toks p ns ss v u (0, ⟨#[]⟩, 0) h hg hs0 (by omega))
  have HC := Lib.hid (fun (W : World) (q : Q w W) => (⟨(q.cell (p := ⟨B, 0, none⟩) h.box.1).trans b0, (q.cell (p := ⟨B, 1, none⟩) h.box.1).trans b1, (q.cell (p := ad.add (p * 3)) (by rw [add_block]; exact hb')).trans c0,
    (q.cell (p := ⟨(ad.add (p * 3)).block, (ad.add (p * 3)).off + 1, none⟩) (by show (ad.add (p * 3)).block < _; rw [add_block]; exact hb')).trans c1, (q.cell (p := ⟨(ad.add (p * 3)).block, (ad.add (p * 3)).off + 2, none⟩) (by show (ad.add (p * 3)).block < _; rw [add_block]; exact hb')).trans c2⟩ :
      W.cell? ⟨B, 0, none⟩ = _ ∧ W.cell? ⟨B, 1, none⟩ = _ ∧ W.cell? (ad.add (p * 3)) = _ ∧ W.cell? ⟨(ad.add (p * 3)).block, (ad.add (p * 3)).off + 1, none⟩ = _ ∧ W.cell? ⟨(ad.add (p * 3)).block, (ad.add (p * 3)).off + 2, none⟩ = _))
  have H := Lib.hid h
  generalize toks[p].1 = tk at *
  generalize toks[p].2.1 = ts at *
  generalize toks[p].2.2 = tq at *
  clear h hg hb hb'
  go_enter Tryd.func24, Tryd.ntmps24
  go_wp2_with fail
  go_quiet (fail)
  have q1 := (Q.refl w).drewN nq
  generalize w.drewN nq = w1 at *
  have H1 := Lib.hid (H.out.more q1)
  obtain ⟨b0, b1, c0, c1, c2⟩ := HC.out _ q1
  obtain ⟨z0, z1, y0, y1, y2⟩ := HC.out _ (q1.alloc (Obj.cells #[.int .i64 0, .string ⟨#[]⟩, .int .i64 0] 45))
  have H2 := Lib.hid (H1.out.more ((Q.refl w1).alloc (Obj.cells #[.int .i64 tk, .string ts, .int .i64 tq] 45)).drew)
  clear q1
  go_wp2_with fail
  go_region
  all_goals
    go_wp2_with (first
      | (go_at_call 47; refine (CS.out _ H2.out).mono ?_; rintro e w2 ⟨rfl, q2⟩; have H3 := Lib.hid (H2.out.more q2))
      | (go_at_call 48; refine (CO.out _ H3.out).mono ?_; rintro e w4 ⟨b, er, rfl, hR⟩))
    go_ret2
    exact ⟨b, er, rfl, hR⟩
end Go.Proofs.YtmbdbmjnibfmgaaDoor.Ex

namespace Go.Proofs.YtmbdbmjnibfmgaaDoor.Ex
open Go.RowKit Kit Rw
open Go.Proofs.YtmbdbmjnibfmgaaDoor.Nm

set_option maxRecDepth 100000 in
set_option maxHeartbeats 4000000 in
theorem part_zero (W0 w : World) (B : Nat) (A : Option Addr) (c : Nat) (toks : List Tg) (p : Nat) (ns : List Tg) (ss : List Lv) (v u : Value) (h : RS W0 w B A c toks p ns ss v u) (hp : p < toks.length) (hg : isSg toks p ⟨#[40]⟩ = false) (hk : toks[p].1 = 2) (ht : toks[p].2.1 = ⟨#[48]⟩) (hn : ns.length ≤ 1000000) (hl : toks.length ≤ 100000) :
    Calls Tryd.prog 24 #[.pointer (some ⟨B, 0, none⟩)] w fun e w' => e = .returned (.tuple #[.bool false, .int .i64 0]) ∧ ∃ v', RS W0 w' B A c toks (p + 1) (ns ++ [(0, ⟨#[]⟩, 0)]) ss v' u := by
  obtain ⟨b0, b1, _, _⟩ := h.cells
  obtain ⟨ad, rfl, hb, c0, c1, c2⟩ := tok_at h.tk hp
  have hb' : ad.block < w.heap.size := Nat.lt_of_lt_of_le hb h.q.size
  have d0 : ((p : Int) == (toks.length : Int)) = false := beq_eq_false_iff_ne.2 (by omega)
  have CS : Hid (∀ W : World, RS W0 W B (some ad) c toks p ns ss v u → Calls Tryd.prog 47 #[.pointer (some ⟨B, 0, none⟩), .string ⟨#[40]⟩] W fun e w' => e = .returned (.bool false) ∧ Q W w') := fun W h => by
    have := isSign_any W0 W B (some ad) c toks p ns ss v u ⟨#[40]⟩ h
    rwa [hg] at this
  have CL := Lib.hid (fun (W : World) (h : RS W0 W B (some ad) c toks p ns ss v u) => leaf_any W0 W B (some ad) c toks p ns ss v u (0, ⟨#[]⟩, 0) h (by omega) hn)
  have HC := Lib.hid (fun (W : World) (q : Q w W) => (⟨(q.cell (p := ⟨B, 0, none⟩) h.box.1).trans b0, (q.cell (p := ⟨B, 1, none⟩) h.box.1).trans b1, (q.cell (p := ad.add (p * 3)) (by rw [add_block]; exact hb')).trans c0,
    (q.cell (p := ⟨(ad.add (p * 3)).block, (ad.add (p * 3)).off + 1, none⟩) (by show (ad.add (p * 3)).block < _; rw [add_block]; exact hb')).trans c1, (q.cell (p := ⟨(ad.add (p * 3)).block, (ad.add (p * 3)).off + 2, none⟩) (by show (ad.add (p * 3)).block < _; rw [add_block]; exact hb')).trans c2⟩ :
      W.cell? ⟨B, 0, none⟩ = _ ∧ W.cell? ⟨B, 1, none⟩ = _ ∧ W.cell? (ad.add (p * 3)) = _ ∧ W.cell? ⟨(ad.add (p * 3)).block, (ad.add (p * 3)).off + 1, none⟩ = _ ∧ W.cell? ⟨(ad.add (p * 3)).block, (ad.add (p * 3)).off + 2, none⟩ = _))
  have H := Lib.hid h
  rw [hk] at HC c0
  rw [ht] at HC c1
  clear ht
  generalize toks[p].2.2 = tq at *
  clear h hg hb hb' hk
  go_enter Tryd.func24, Tryd.ntmps24
  go_wp2_with fail
  go_quiet (fail)
  have q1 := (Q.refl w).drewN nq
  generalize w.drewN nq = w1 at *
  have H1 := Lib.hid (H.out.more q1)
  obtain ⟨b0, b1, c0, c1, c2⟩ := HC.out _ q1
  obtain ⟨z0, z1, y0, y1, y2⟩ := HC.out _ (q1.alloc (Obj.cells #[.int .i64 0, .string ⟨#[]⟩, .int .i64 0] 45))
  have H2 := Lib.hid (H1.out.more ((Q.refl w1).alloc (Obj.cells #[.int .i64 2, .string ⟨#[48]⟩, .int .i64 tq] 45)).drew)
  have HX : Hid (OwnC (w1.alloc (Obj.cells #[.int .i64 2, .string ⟨#[48]⟩, .int .i64 tq] 45)).drew w1.heap.size [.int .i64 2, .string ⟨#[48]⟩, .int .i64 tq]) := (tok_box w1 2 ⟨#[48]⟩ tq).2
  clear q1 HC
  go_wp2_with fail
  go_region
  all_goals
    go_wp2_with (first
      | (go_at_call 47; refine (CS.out _ H2.out).mono ?_; rintro e w2 ⟨rfl, q2⟩; have H3 := Lib.hid (H2.out.more q2); have HX3 := Lib.hid (HX.out.q q2); have x0 := (HX3.out.2 0 _ rfl).1; have x1 := (HX3.out.2 1 _ rfl).1; clear q2)
      | (go_at_call 49; refine (CL.out _ H3.out).mono ?_; rintro e w4 ⟨rfl, v', hR⟩))
    go_ret2
    exact ⟨rfl, v', hR⟩
set_option maxRecDepth 100000 in
set_option maxHeartbeats 4000000 in
theorem part_one (W0 w : World) (B : Nat) (A : Option Addr) (c : Nat) (toks : List Tg) (p : Nat) (ns : List Tg) (ss : List Lv) (v u : Value) (h : RS W0 w B A c toks p ns ss v u) (hp : p < toks.length) (hg : isSg toks p ⟨#[40]⟩ = false) (hk : toks[p].1 = 2) (ht : toks[p].2.1 = ⟨#[49]⟩) (hn : ns.length ≤ 1000000) (hl : toks.length ≤ 100000) :
    Calls Tryd.prog 24 #[.pointer (some ⟨B, 0, none⟩)] w fun e w' => e = .returned (.tuple #[.bool false, .int .i64 0]) ∧ ∃ v', RS W0 w' B A c toks (p + 1) (ns ++ [(1, ⟨#[]⟩, 0)]) ss v' u := by
  obtain ⟨b0, b1, _, _⟩ := h.cells
  obtain ⟨ad, rfl, hb, c0, c1, c2⟩ := tok_at h.tk hp
  have hb' : ad.block < w.heap.size := Nat.lt_of_lt_of_le hb h.q.size
  have d0 : ((p : Int) == (toks.length : Int)) = false := beq_eq_false_iff_ne.2 (by omega)
  have CS : Hid (∀ W : World, RS W0 W B (some ad) c toks p ns ss v u → Calls Tryd.prog 47 #[.pointer (some ⟨B, 0, none⟩), .string ⟨#[40]⟩] W fun e w' => e = .returned (.bool false) ∧ Q W w') := fun W h => by
    have := isSign_any W0 W B (some ad) c toks p ns ss v u ⟨#[40]⟩ h
    rwa [hg] at this
  have CL := Lib.hid (fun (W : World) (h : RS W0 W B (some ad) c toks p ns ss v u) => leaf_any W0 W B (some ad) c toks p ns ss v u (1, ⟨#[]⟩, 0) h (by omega) hn)
  have HC := Lib.hid (fun (W : World) (q : Q w W) => (⟨(q.cell (p := ⟨B, 0, none⟩) h.box.1).trans b0, (q.cell (p := ⟨B, 1, none⟩) h.box.1).trans b1, (q.cell (p := ad.add (p * 3)) (by rw [add_block]; exact hb')).trans c0,
    (q.cell (p := ⟨(ad.add (p * 3)).block, (ad.add (p * 3)).off + 1, none⟩) (by show (ad.add (p * 3)).block < _; rw [add_block]; exact hb')).trans c1, (q.cell (p := ⟨(ad.add (p * 3)).block, (ad.add (p * 3)).off + 2, none⟩) (by show (ad.add (p * 3)).block < _; rw [add_block]; exact hb')).trans c2⟩ :
      W.cell? ⟨B, 0, none⟩ = _ ∧ W.cell? ⟨B, 1, none⟩ = _ ∧ W.cell? (ad.add (p * 3)) = _ ∧ W.cell? ⟨(ad.add (p * 3)).block, (ad.add (p * 3)).off + 1, none⟩ = _ ∧ W.cell? ⟨(ad.add (p * 3)).block, (ad.add (p * 3)).off + 2, none⟩ = _))
  have H := Lib.hid h
  rw [hk] at HC c0
  rw [ht] at HC c1
  clear ht
  generalize toks[p].2.2 = tq at *
  clear h hg hb hb' hk
  go_enter Tryd.func24, Tryd.ntmps24
  go_wp2_with fail
  go_quiet (fail)
  have q1 := (Q.refl w).drewN nq
  generalize w.drewN nq = w1 at *
  have H1 := Lib.hid (H.out.more q1)
  obtain ⟨b0, b1, c0, c1, c2⟩ := HC.out _ q1
  obtain ⟨z0, z1, y0, y1, y2⟩ := HC.out _ (q1.alloc (Obj.cells #[.int .i64 0, .string ⟨#[]⟩, .int .i64 0] 45))
  have H2 := Lib.hid (H1.out.more ((Q.refl w1).alloc (Obj.cells #[.int .i64 2, .string ⟨#[49]⟩, .int .i64 tq] 45)).drew)
  have HX : Hid (OwnC (w1.alloc (Obj.cells #[.int .i64 2, .string ⟨#[49]⟩, .int .i64 tq] 45)).drew w1.heap.size [.int .i64 2, .string ⟨#[49]⟩, .int .i64 tq]) := (tok_box w1 2 ⟨#[49]⟩ tq).2
  clear q1 HC
  go_wp2_with fail
  go_region
  all_goals
    go_wp2_with (first
      | (go_at_call 47; refine (CS.out _ H2.out).mono ?_; rintro e w2 ⟨rfl, q2⟩; have H3 := Lib.hid (H2.out.more q2); have HX3 := Lib.hid (HX.out.q q2); have x0 := (HX3.out.2 0 _ rfl).1; have x1 := (HX3.out.2 1 _ rfl).1; clear q2)
      | (go_at_call 49; refine (CL.out _ H3.out).mono ?_; rintro e w4 ⟨rfl, v', hR⟩))
    go_ret2
    exact ⟨rfl, v', hR⟩
set_option maxRecDepth 100000 in
set_option maxHeartbeats 4000000 in
theorem part_var (W0 w : World) (B : Nat) (A : Option Addr) (c : Nat) (toks : List Tg) (p : Nat) (ns : List Tg) (ss : List Lv) (v u : Value) (h : RS W0 w B A c toks p ns ss v u) (hp : p < toks.length) (hg : isSg toks p ⟨#[40]⟩ = false) (s : ByteArray) (hk : toks[p].1 = 1) (ht : toks[p].2.1 = s) (hv : nameB 65 90 s.data.toList = true) (hn : ns.length ≤ 1000000) (hl : toks.length ≤ 100000) :
    Calls Tryd.prog 24 #[.pointer (some ⟨B, 0, none⟩)] w fun e w' => e = .returned (.tuple #[.bool false, .int .i64 0]) ∧ ∃ v', RS W0 w' B A c toks (p + 1) (ns ++ [(2, s, 0)]) ss v' u := by
  obtain ⟨b0, b1, _, _⟩ := h.cells
  obtain ⟨ad, rfl, hb, c0, c1, c2⟩ := tok_at h.tk hp
  have hb' : ad.block < w.heap.size := Nat.lt_of_lt_of_le hb h.q.size
  have d0 : ((p : Int) == (toks.length : Int)) = false := beq_eq_false_iff_ne.2 (by omega)
  have CS : Hid (∀ W : World, RS W0 W B (some ad) c toks p ns ss v u → Calls Tryd.prog 47 #[.pointer (some ⟨B, 0, none⟩), .string ⟨#[40]⟩] W fun e w' => e = .returned (.bool false) ∧ Q W w') := fun W h => by
    have := isSign_any W0 W B (some ad) c toks p ns ss v u ⟨#[40]⟩ h
    rwa [hg] at this
  have CL := Lib.hid (fun (W : World) (h : RS W0 W B (some ad) c toks p ns ss v u) => leaf_any W0 W B (some ad) c toks p ns ss v u (2, s, 0) h (by omega) hn)
  have CV : Hid (∀ W : World, Calls Tryd.prog 50 #[.string s] W fun e w' => e = .returned (.bool true) ∧ Q W w') := fun W => by
    have := isVar_any s W
    rwa [hv] at this
  clear hv
  have HC := Lib.hid (fun (W : World) (q : Q w W) => (⟨(q.cell (p := ⟨B, 0, none⟩) h.box.1).trans b0, (q.cell (p := ⟨B, 1, none⟩) h.box.1).trans b1, (q.cell (p := ad.add (p * 3)) (by rw [add_block]; exact hb')).trans c0,
    (q.cell (p := ⟨(ad.add (p * 3)).block, (ad.add (p * 3)).off + 1, none⟩) (by show (ad.add (p * 3)).block < _; rw [add_block]; exact hb')).trans c1, (q.cell (p := ⟨(ad.add (p * 3)).block, (ad.add (p * 3)).off + 2, none⟩) (by show (ad.add (p * 3)).block < _; rw [add_block]; exact hb')).trans c2⟩ :
      W.cell? ⟨B, 0, none⟩ = _ ∧ W.cell? ⟨B, 1, none⟩ = _ ∧ W.cell? (ad.add (p * 3)) = _ ∧ W.cell? ⟨(ad.add (p * 3)).block, (ad.add (p * 3)).off + 1, none⟩ = _ ∧ W.cell? ⟨(ad.add (p * 3)).block, (ad.add (p * 3)).off + 2, none⟩ = _))
  have H := Lib.hid h
  rw [hk] at HC c0
  rw [ht] at HC c1
  clear ht
  generalize toks[p].2.2 = tq at *
  clear h hg hb hb' hk
  go_enter Tryd.func24, Tryd.ntmps24
  go_wp2_with fail
  go_quiet (fail)
  have q1 := (Q.refl w).drewN nq
  generalize w.drewN nq = w1 at *
  have H1 := Lib.hid (H.out.more q1)
  obtain ⟨b0, b1, c0, c1, c2⟩ := HC.out _ q1
  obtain ⟨z0, z1, y0, y1, y2⟩ := HC.out _ (q1.alloc (Obj.cells #[.int .i64 0, .string ⟨#[]⟩, .int .i64 0] 45))
  have H2 := Lib.hid (H1.out.more ((Q.refl w1).alloc (Obj.cells #[.int .i64 1, .string s, .int .i64 tq] 45)).drew)
  have HX : Hid (OwnC (w1.alloc (Obj.cells #[.int .i64 1, .string s, .int .i64 tq] 45)).drew w1.heap.size [.int .i64 1, .string s, .int .i64 tq]) := (tok_box w1 1 s tq).2
  clear q1 HC
  go_wp2_with fail
  go_region
  all_goals
    go_wp2_with (first
      | (go_at_call 47; refine (CS.out _ H2.out).mono ?_; rintro e w2 ⟨rfl, q2⟩; have H3 := Lib.hid (H2.out.more q2); have HX3 := Lib.hid (HX.out.q q2); have x0 := (HX3.out.2 0 _ rfl).1; have x1 := (HX3.out.2 1 _ rfl).1; clear q2)
      | (go_at_call 50; refine (CV.out _).mono ?_; rintro e w3 ⟨rfl, q3⟩; have H4 := Lib.hid (H3.out.more q3); have HX4 := Lib.hid (HX3.out.q q3); have x0 := (HX4.out.2 0 _ rfl).1; have x1 := (HX4.out.2 1 _ rfl).1; clear q3)
      | (go_at_call 49; refine (CL.out _ H4.out).mono ?_; rintro e w4 ⟨rfl, v', hR⟩))
    go_ret2
    exact ⟨rfl, v', hR⟩
set_option maxRecDepth 100000 in
set_option maxHeartbeats 4000000 in
theorem part_con (W0 w : World) (B : Nat) (A : Option Addr) (c : Nat) (toks : List Tg) (p : Nat) (ns : List Tg) (ss : List Lv) (v u : Value) (h : RS W0 w B A c toks p ns ss v u) (hp : p < toks.length) (hg : isSg toks p ⟨#[40]⟩ = false) (s : ByteArray) (hk : toks[p].1 = 1) (ht : toks[p].2.1 = s) (hv : nameB 65 90 s.data.toList = false) (hc : nameB 97 122 s.data.toList = true) (R : Bool → Int → World → Prop) (hC : ∀ W : World, RS W0 W B A c toks p ns ss v u → Calls Tryd.prog 52 #[.pointer (some ⟨B, 0, none⟩), .string s] W fun e w' => ∃ b er, e = .returned (.tuple #[.bool b, .int .i64 er]) ∧ R b er w') :
    Calls Tryd.prog 24 #[.pointer (some ⟨B, 0, none⟩)] w fun e w' => ∃ b er, e = .returned (.tuple #[.bool b, .int .i64 er]) ∧ R b er w' := by
  obtain ⟨b0, b1, _, _⟩ := h.cells
  obtain ⟨ad, rfl, hb, c0, c1, c2⟩ := tok_at h.tk hp
  have hb' : ad.block < w.heap.size := Nat.lt_of_lt_of_le hb h.q.size
  have d0 : ((p : Int) == (toks.length : Int)) = false := beq_eq_false_iff_ne.2 (by omega)
  have CS : Hid (∀ W : World, RS W0 W B (some ad) c toks p ns ss v u → Calls Tryd.prog 47 #[.pointer (some ⟨B, 0, none⟩), .string ⟨#[40]⟩] W fun e w' => e = .returned (.bool false) ∧ Q W w') := fun W h => by
    have := isSign_any W0 W B (some ad) c toks p ns ss v u ⟨#[40]⟩ h
    rwa [hg] at this
  have CL := Lib.hid hC
  have CV : Hid (∀ W : World, Calls Tryd.prog 50 #[.string s] W fun e w' => e = .returned (.bool false) ∧ Q W w') := fun W => by
    have := isVar_any s W
    rwa [hv] at this
  have CC : Hid (∀ W : World, Calls Tryd.prog 51 #[.string s] W fun e w' => e = .returned (.bool true) ∧ Q W w') := fun W => by
    have := isCon_any s W
    rwa [hc] at this
  clear hv hc hC
  have HC := Lib.hid (fun (W : World) (q : Q w W) => (⟨(q.cell (p := ⟨B, 0, none⟩) h.box.1).trans b0, (q.cell (p := ⟨B, 1, none⟩) h.box.1).trans b1, (q.cell (p := ad.add (p * 3)) (by rw [add_block]; exact hb')).trans c0,
    (q.cell (p := ⟨(ad.add (p * 3)).block, (ad.add (p * 3)).off + 1, none⟩) (by show (ad.add (p * 3)).block < _; rw [add_block]; exact hb')).trans c1, (q.cell (p := ⟨(ad.add (p * 3)).block, (ad.add (p * 3)).off + 2, none⟩) (by show (ad.add (p * 3)).block < _; rw [add_block]; exact hb')).trans c2⟩ :
      W.cell? ⟨B, 0, none⟩ = _ ∧ W.cell? ⟨B, 1, none⟩ = _ ∧ W.cell? (ad.add (p * 3)) = _ ∧ W.cell? ⟨(ad.add (p * 3)).block, (ad.add (p * 3)).off + 1, none⟩ = _ ∧ W.cell? ⟨(ad.add (p * 3)).block, (ad.add (p * 3)).off + 2, none⟩ = _))
  have H := Lib.hid h
  rw [hk] at HC c0
  rw [ht] at HC c1
  clear ht
  generalize toks[p].2.2 = tq at *
  clear h hg hb hb' hk
  go_enter Tryd.func24, Tryd.ntmps24
  go_wp2_with fail
  go_quiet (fail)
  have q1 := (Q.refl w).drewN nq
  generalize w.drewN nq = w1 at *
  have H1 := Lib.hid (H.out.more q1)
  obtain ⟨b0, b1, c0, c1, c2⟩ := HC.out _ q1
  obtain ⟨z0, z1, y0, y1, y2⟩ := HC.out _ (q1.alloc (Obj.cells #[.int .i64 0, .string ⟨#[]⟩, .int .i64 0] 45))
  have H2 := Lib.hid (H1.out.more ((Q.refl w1).alloc (Obj.cells #[.int .i64 1, .string s, .int .i64 tq] 45)).drew)
  have HX : Hid (OwnC (w1.alloc (Obj.cells #[.int .i64 1, .string s, .int .i64 tq] 45)).drew w1.heap.size [.int .i64 1, .string s, .int .i64 tq]) := (tok_box w1 1 s tq).2
  clear q1 HC
  go_wp2_with fail
  go_region
  all_goals
    go_wp2_with (first
      | (go_at_call 47; refine (CS.out _ H2.out).mono ?_; rintro e w2 ⟨rfl, q2⟩; have H3 := Lib.hid (H2.out.more q2); have HX3 := Lib.hid (HX.out.q q2); have x0 := (HX3.out.2 0 _ rfl).1; have x1 := (HX3.out.2 1 _ rfl).1; clear q2)
      | (go_at_call 50; refine (CV.out _).mono ?_; rintro e w3 ⟨rfl, q3⟩; have H4 := Lib.hid (H3.out.more q3); have HX4 := Lib.hid (HX3.out.q q3); have x0 := (HX4.out.2 0 _ rfl).1; have x1 := (HX4.out.2 1 _ rfl).1; clear q3)
      | (go_at_call 51; refine (CC.out _).mono ?_; rintro e w4 ⟨rfl, q4⟩; have H5 := Lib.hid (H4.out.more q4); have HX5 := Lib.hid (HX4.out.q q4); have x0 := (HX5.out.2 0 _ rfl).1; have x1 := (HX5.out.2 1 _ rfl).1; clear q4)
      | (go_at_call 52; refine (CL.out _ H5.out).mono ?_; rintro e w5 ⟨b, er, rfl, hR⟩))
    go_ret2
    exact ⟨b, er, rfl, hR⟩
end Go.Proofs.YtmbdbmjnibfmgaaDoor.Ex
