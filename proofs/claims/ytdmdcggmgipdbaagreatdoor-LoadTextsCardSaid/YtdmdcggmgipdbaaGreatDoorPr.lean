/-
  What the proofs lean on, part 18 of 25.
-/
import Derived.Test.YtdmdcggmgipdbaaGreatDoorPd
import Derived.Test.YtdmdcggmgipdbaaGreatDoorPh
import Derived.Test.YtdmdcggmgipdbaaGreatDoorPk
import Derived.Test.YtdmdcggmgipdbaaGreatDoorPn
import Derived.Test.YtdmdcggmgipdbaaGreatDoorPp
import Derived.Test.YtdmdcggmgipdbaaGreatDoorPq
import Derived.Lib.AppendZeros
import Derived.Lib.SliceRun
import Derived.Shelf.Strconv.Itoa0
import Derived.Shelf.Strconv.Itoa1
import Derived.Shelf.LaysM
import Derived.Shelf.Strconv.Itoa2
import Derived.Shelf.Strconv.Itoa3
import Derived.Test.YtdmdcggmgipdbaaGreatDoorProg
namespace Go.Proofs.YtdmdcggmgipdbaaGreatDoor.Ld
open Go.RowKit Kit Rw

/-- a row of rows of nodes -/
def RwG (w : World) (A : Option Addr) (rs : List (List Tg)) : Prop :=
  0 < rs.length → ∃ ad, A = some ad ∧ ad.block < w.heap.size ∧ ∀ i r, rs[i]? = some r → ∃ a c, w.cell? (ad.add i) = some (.slice a r.length c) ∧ Rds w w.heap.size a (cellsG r)
theorem RwG.q {w w' : World} {A : Option Addr} {l : List (List Tg)} (h : RwG w A l) (q : Q w w') : RwG w' A l := fun h0 => by
  obtain ⟨ad, e, hlt, hc⟩ := h h0
  refine ⟨ad, e, Nat.lt_of_lt_of_le hlt q.size, fun i s hs => ?_⟩
  obtain ⟨a, c, c0, hi⟩ := hc i s hs
  exact ⟨a, c, (q.cell (by rw [add_block]; exact hlt)).trans c0, hi.q q⟩
theorem RwG.at_ {w : World} {A : Option Addr} {l : List (List Tg)} (h : RwG w A l) {k : Nat} (hk : k < l.length) :
    ∃ ad, A = some ad ∧ ad.block < w.heap.size ∧ ∃ a c, w.cell? (ad.add k) = some (.slice a l[k].length c) ∧ Rds w w.heap.size a (cellsG l[k]) := by
  obtain ⟨ad, e, hlt, hc⟩ := h (by omega)
  exact ⟨ad, e, hlt, hc k l[k] (List.getElem?_eq_getElem hk)⟩
def upToG (rs : List (List Tg)) (k : Nat) : List Tg := (rs.take k).flatten
theorem upToG_succ (rs : List (List Tg)) (k : Nat) (h : k < rs.length) : upToG rs (k + 1) = upToG rs k ++ rs[k] := by
  unfold upToG
  rw [List.take_succ_eq_append_getElem h, List.flatten_append]
  simp
theorem upToG_all (rs : List (List Tg)) (k : Nat) (h : rs.length ≤ k) : upToG rs k = rs.flatten := by unfold upToG; rw [List.take_of_length_le h]
theorem upToG_le (rs : List (List Tg)) (k : Nat) : (upToG rs k).length ≤ rs.flatten.length := by
  have e : rs.flatten = upToG rs k ++ (rs.drop k).flatten := by unfold upToG; rw [← List.flatten_append, List.take_append_drop]
  rw [e, List.length_append]; omega
def OwnG (base : Nat) (n : Nat) (cs : List Value) (w : World) (e : Ending) (w' : World) : Prop := ∃ v, e = .returned v ∧ w'.ownsRow base 67 3 v n cs ∧ Q w w'

set_option maxHeartbeats 1000000 in
theorem grow_nodes (n : Nat) (w : World) (hn : n ≤ 100000) : Calls Tryz.prog 86 #[.slice none 0 0, .int .i64 (n : Int)] w (OwnG w.heap.size 0 [] w) := by
  obtain ⟨i0, hi, hz0, hz1, hz2⟩ := info_parts Ex.nodeInfo
  by_cases h0 : n = 0
  · subst h0
    clear hi hz0 hz1 hz2
    go_enter Tryz.func86, Tryz.ntmps86
    go_wp2_with fail
    go_ret
    exact ⟨_, rfl, World.ownsRow_nil _ _ _ _, Q.refl _⟩
  · have hrz := fun ty => Lib.run_append_nil_zeros (P := Tryz.prog) w 33 3 ty 67 i0 _ .i64 .i64 Tryz.underlying33 Tryz.underlying3 hi hz0 n (by omega) (by omega) (by omega) (by rw [hz2]; omega)
    have hge := grownCap_ge w n 0 67
    have hle := grownCap_le_maxLen w n 0 67 (by unfold maxLen; omega)
    obtain ⟨cap, hcap⟩ : ∃ cap, cap = grownCap w n 0 67 := ⟨_, rfl⟩
    rw [← hcap] at hrz hge hle
    have HL := Lib.hid hle
    have h1 : 0 < n := by omega
    obtain ⟨O, hO⟩ : ∃ O, O = Builtin.zeroCells (Value.agg #[.int .i64 0, .string ⟨#[]⟩, .int .i64 0]).cells n ++ Builtin.zeroCells (Value.agg #[.int .i64 0, .string ⟨#[]⟩, .int .i64 0]).cells (cap - n) := ⟨_, rfl⟩
    have hsz : O.size = cap * 3 := by rw [hO]; simp [Builtin.zeroCells, Value.cells]; omega
    rw [← hO] at hrz
    have Hsz := Lib.hid hsz
    clear hi hz0 hz1 hz2 hcap hO hsz h0 hle
    have Hrz := Lib.hid hrz
    clear hrz
    unfold maxLen at HL
    have hle := HL.out
    go_enter Tryz.func86, Tryz.ntmps86
    go_wp2_with (at_builtin; refine Lib.wpList_append_run _ rfl _ _ _ _ rfl _ _ rfl rfl _ _ (Hrz.out _) ?_)
    go_ret
    exact ⟨_, rfl, ⟨rfl, .inr ⟨w.heap.size, cap, O, rfl, Nat.le_refl _, heap_alloc_new w.drew _, by omega, by unfold maxLen; exact HL.out, by rw [Hsz.out], by simp⟩⟩, ((Q.refl w).drew).alloc _⟩

set_option maxRecDepth 100000 in
set_option maxHeartbeats 2000000 in
theorem concat_nodes (A : Option Addr) (n c : Nat) (rs : List (List Tg)) (w : World) (hn : n = rs.length) (hr : RwG w A rs) (hl : rs.length ≤ 10000) (ht : rs.flatten.length ≤ 100000) :
    Calls Tryz.prog 69 #[.slice A n c] w (OwnG w.heap.size rs.flatten.length (cellsG rs.flatten) w) := by
  subst hn
  obtain ⟨i0, hi, hz0, hz1, hz2⟩ := info_parts Ex.nodeInfo
  have Hi := Lib.hid hi
  have Hz0 := Lib.hid hz0
  have Hz1 := Lib.hid hz1
  have Hz2 := Lib.hid hz2
  clear hi hz0 hz1 hz2
  go_enter Tryz.func69, Tryz.ntmps69
  go_wp2_with fail
  go_loopw [3, 11] (fun s i wr => ∃ k m : Nat, k ≤ rs.length ∧ i = .int .i64 k ∧ s = .int .i64 m ∧ m ≤ 100000 ∧ Hid (m = (upToG rs k).length) ∧ w = wr) (fun _ i _ => rs.length - (intOf i).toNat)
  case atStart => exact ⟨0, 0, Nat.zero_le _, rfl, rfl, by omega, Lib.hid rfl, rfl⟩
  case round =>
    obtain ⟨k, m, hk, rfl, rfl, hm, HM, rfl⟩ := hrel
    by_cases hlt : k < rs.length
    · obtain ⟨ad, rfl, hb, a, c1, c0, hs⟩ := hr.at_ hlt
      have HU := Lib.hid (upToG_succ rs k hlt)
      have hle := upToG_le rs (k + 1)
      have hb2 : m + rs[k].length ≤ 100000 := by rw [HU.out, List.length_append] at hle; have := HM.out; omega
      clear hr hs hle
      go_wp2_with fail
      go_roundw
      case rel => exact ⟨k + 1, m + rs[k].length, by omega, by go_num, by go_num, hb2, Lib.hid (by rw [HU.out, List.length_append, HM.out]), trivial⟩
      case measure => simp [intOf]; omega
    · go_wp2_with fail
      refine (grow_nodes _ _ hm).mono ?_
      rintro e w1 ⟨v, rfl, own, q1⟩
      have Hown := Lib.hid own
      clear own
      go_wp2_with fail
      go_loopw [6, 27] (fun v i wr => ∃ k : Nat, k ≤ rs.length ∧ i = .int .i64 k ∧ Hid (wr.ownsRow w.heap.size 67 3 v (upToG rs k).length (cellsG (upToG rs k))) ∧ Q w wr) (fun _ i _ => rs.length - (intOf i).toNat)
      case atStart => exact ⟨0, Nat.zero_le _, rfl, Hown, q1⟩
      case round =>
        obtain ⟨k', hk', rfl, HO, qr⟩ := hrel
        by_cases hlt' : k' < rs.length
        · obtain ⟨ad, rfl, hb, a, c1, c0, hs⟩ := (hr.q qr).at_ hlt'
          have Hs := Lib.hid hs
          have HU := Lib.hid (upToG_succ rs k' hlt')
          have hle := upToG_le rs (k' + 1)
          have Hb2 : Hid ((upToG rs k').length + rs[k'].length ≤ 100000) := by rw [HU.out, List.length_append] at hle; exact Lib.hid (by omega)
          have H1 := Lib.hid (cellsG_one rs[k'])
          have hb' := Hb2.out
          clear hs hle
          go_wp2_with (at_builtin; refine wpList_append_src _ rfl (.tmp 31) (.tmp 32) _ rfl w.heap.size 67 i0 _ 3 32 Tryz.underlying33 Hi.out Hz0.out Hz1.out Hz2.out rfl (by omega) _ (upToG rs k').length (cellsG (upToG rs k')) rfl HO.out a rs[k'].length c1 (cellsG rs[k']) rfl (cellsG_len _) Hs.out.src H1.out (by unfold maxLen; omega) (by omega) qr.size ?_; intro v' w' own' gr' _)
          have q2 : Q w w' := qr.grown gr' qr.size (fun b hb => (HO.out.lt b hb).1)
          have Ho := Lib.hid own'
          clear own' gr'
          go_wp2_with fail
          go_roundw
          case rel => exact ⟨k' + 1, by omega, by go_num, by rw [HU.out, List.length_append, cellsG_append]; exact Ho, q2⟩
          case measure => simp [intOf]; omega
        · have HU := Lib.hid (upToG_all rs k' (by omega))
          go_wp2_with fail
          go_ret
          exact ⟨_, rfl, by rw [← HU.out]; exact HO.out, qr⟩

theorem own_new9 (w : World) (cs : List Value) (t : TypeId) : OwnC (w.alloc (.cells cs.toArray t)) w.heap.size cs :=
  ⟨by simp, fun j v hv => ⟨by have := (src_alloc w cs t (0, 0)) (by have := (List.getElem?_eq_some_iff.1 hv).1; omega); obtain ⟨ad, e, h⟩ := this; injection e with e; subst e; have := h j v hv; rwa [add_zero_head] at this, World.frozen?_alloc_at _ _ _ _ rfl⟩⟩
theorem rw2 {W : World} {A0 A1 : Option Addr} {c0 c1 : Nat} {p0 p1 : List Tg} {n0 n1 : Nat} (t : TypeId) (h0 : Rds W W.heap.size A0 (cellsG p0)) (h1 : Rds W W.heap.size A1 (cellsG p1)) (e0 : n0 = p0.length) (e1 : n1 = p1.length) :
    RwG (W.alloc (.cells #[.slice A0 n0 c0, .slice A1 n1 c1] t)) (some ⟨W.heap.size, 0, none⟩) [p0, p1] := by
  subst e0 e1
  have q := (Q.refl W).alloc (Obj.cells #[.slice A0 p0.length c0, .slice A1 p1.length c1] t)
  have hO := own_new9 W [.slice A0 p0.length c0, .slice A1 p1.length c1] t
  intro _
  refine ⟨_, rfl, by simp, fun i r hr => ?_⟩
  match i, hr with
  | 0, hr => obtain rfl : p0 = r := by simpa using hr
             exact ⟨_, _, by rw [add_zero_head]; exact (hO.2 0 _ rfl).1, h0.q q⟩
  | 1, hr => obtain rfl : p1 = r := by simpa using hr
             exact ⟨_, _, by rw [add_zero_head]; exact (hO.2 1 _ rfl).1, h1.q q⟩
  | i + 2, hr => simp at hr
end Go.Proofs.YtdmdcggmgipdbaaGreatDoor.Ld

namespace Go.Proofs.YtdmdcggmgipdbaaGreatDoor.Ld
open Go.RowKit Kit Rw Go.Maps Go.WideMaps
open Go.Proofs.YtdmdcggmgipdbaaGreatDoor.Sg (Sig Row)
open Go.Proofs.YtdmdcggmgipdbaaGreatDoor.Hs (Keys Ints BoxT)
open Go.Proofs.YtdmdcggmgipdbaaGreatDoor.Tm (Tm Store Made castL of_any LookPost Box4)
open Go.Proofs.YtdmdcggmgipdbaaGreatDoor.Ex (Ex cellsS nodeInfo own_slice)
def rowR : Value → Option (DataW Value × List MemPlace) := fun v => some (.held v, [])
theorem keyedI9 : Keyed Tryz.prog 3 := int_keyed Tryz.underlying3
theorem zeroRow (w : World) : (zeroValue 33).run Tryz.prog w = .ok (.slice none 0 0) w := by kernel_rfl
def RdV (w : World) (v : Value) (l : List Tg) : Prop := ∃ A c, v = .slice A l.length c ∧ Rds w w.heap.size A (cellsG l)
theorem RdV.q {w w' : World} {v : Value} {l : List Tg} (h : RdV w v l) (q : Q w w') : RdV w' v l := by
  obtain ⟨A, c, e, hr⟩ := h
  exact ⟨A, c, e, hr.q q⟩
def RowsM (w : World) (b n : Nat) (D : List Nat) (V : Nat → List Tg) : Prop :=
  ∃ M : DataW Value, w.ownsMap Tryz.prog 3 rowR b n M ∧ ∀ y ∈ D, ∃ v, M.atKey (.int .i64 (y : Int)) (.held (.slice none 0 0)) = .held v ∧ RdV w v (V y)
theorem rows_made (w : World) (V : Nat → List Tg) : RowsM (w.alloc (.map #[] 0)) w.heap.size 0 [] V := ⟨_, World.ownsMap_made w _ _ _, fun y h => by cases h⟩
theorem RowsM.lt {w : World} {b n : Nat} {D : List Nat} {V : Nat → List Tg} (h : RowsM w b n D V) : b < w.heap.size := by obtain ⟨M, h1, _⟩ := h; exact h1.lt
theorem RowsM.q {w w' : World} {b n : Nat} {D : List Nat} {V : Nat → List Tg} (h : RowsM w b n D V) (q : Q w w') : RowsM w' b n D V := by
  have hb := q.block b h.lt
  obtain ⟨M, ⟨es, clock, h1, h2⟩, h3⟩ := h
  exact ⟨M, ⟨es, clock, hb.trans h1, h2⟩, fun y hy => by obtain ⟨v, a, c⟩ := h3 y hy; exact ⟨v, a, c.q q⟩⟩
theorem rows_look {w : World} {b n : Nat} {D : List Nat} {V : Nat → List Tg} (h : RowsM w b n D V) {y : Nat} (hy : y ∈ D) (hs : y ≤ 1000000) :
    ∃ A c, (Instr.lookup 109 (.map (some b)) (.int .i64 (y : Int)) false).run Tryz.prog w = .ok (.slice A (V y).length c) w ∧ Rds w w.heap.size A (cellsG (V y)) := by
  obtain ⟨M, h1, h2⟩ := h
  obtain ⟨v, hv, A, c, rfl, hr⟩ := h2 y hy
  obtain ⟨u, ps, hrun, hu⟩ := h1.lookup keyedI9 Tryz.underlying109 (zeroRow w) (zd := .held (.slice none 0 0)) (zp := []) rfl (keyOf_int_mk Tryz.underlying3 (a := (y : Int)) (WalkArith.wf_i64 ⟨by omega, by omega⟩))
  rw [hv] at hu
  have e : u = .slice A (V y).length c := by
    unfold rowR at hu
    simp only [Option.some.injEq, Prod.mk.injEq, DataW.held.injEq] at hu
    exact hu.1
  subst e
  exact ⟨A, c, hrun, hr⟩
theorem rows_put {w : World} {b n : Nat} {D : List Nat} {V : Nat → List Tg} (h : RowsM w b n D V) (y : Nat) (v : Value) (hs : y ≤ 1000000) (hn : n ≤ 1000000) (hv : RdV w v (V y)) :
    ∃ w', (Instr.mapUpdate 109 (.map (some b)) (.int .i64 (y : Int)) v).run Tryz.prog w = .ok () w' ∧ RowsM w' b (n + 1) (D ++ [y]) V ∧ w.grownBy w' (some b) ∧ ∀ u l, RdV w u l → RdV w' u l := by
  have hlt := h.lt
  obtain ⟨M, h1, h2⟩ := h
  obtain ⟨es, clock, hb, hF⟩ := h1
  have h1 : w.ownsMap Tryz.prog 3 rowR b n M := ⟨es, clock, hb, hF⟩
  obtain ⟨w', hrun, h3, hg⟩ := h1.update (val := v) (d := .held v) (ps := []) keyedI9 Tryz.underlying109 (by unfold maxLen; omega) (keyOf_int_mk Tryz.underlying3 (a := (y : Int)) (WalkArith.wf_i64 ⟨by omega, by omega⟩)) rfl
  have hkeep : ∀ (u : Value) (l : List Tg), RdV w u l → RdV w' u l := fun u l hu => by
    obtain ⟨A, c, e, hr⟩ := hu
    refine ⟨A, c, e, fun h0 => ?_⟩
    obtain ⟨ad, e1, e2, e3⟩ := hr h0
    refine ⟨ad, e1, Nat.lt_of_lt_of_le e2 hg.size, fun j x hx => ?_⟩
    have hc := e3 j x hx
    have hne : (ad.add j).block ≠ b := fun hbb => by
      have : w.cell? (ad.add j) = none := by
        unfold World.cell?
        rw [hbb, hb]
      rw [this] at hc
      cases hc
    exact (World.cell?_of_block (a := ad.add j) (hg.block _ (by rw [Rw.add_block]; exact e2) (fun e => hne (by injection e)))).trans hc
  refine ⟨w', hrun, ⟨_, h3, fun z hz => ?_⟩, hg, hkeep⟩
  by_cases e : z = y
  · subst e
    exact ⟨v, Maps.atKey_put_same h1.isMap (by trivial) _ _, hkeep _ _ hv⟩
  · obtain ⟨u, a, c⟩ := h2 z (by simpa [e] using hz)
    refine ⟨u, ?_, hkeep _ _ c⟩
    rw [Maps.atKey_put_other (fun h => e (by have := (Lit.int.inj h).2; omega))]
    exact a

theorem box_grown {W W' : World} {B g : Nat} {a b : Value} (h : BoxT W B a b) (gr : W.grownBy W' (some g)) (hne : B ≠ g) : BoxT W' B a b := by
  have hb := gr.block B h.lt (fun e => hne (by injection e))
  exact ⟨(World.cell?_of_block (a := ⟨B, 0, none⟩) hb).trans h.c0, (World.cell?_of_block (a := ⟨B, 1, none⟩) hb).trans h.c1, Nat.lt_of_lt_of_le h.lt gr.size⟩
theorem sorted_last {l : List Nat} (h : l.Pairwise (· < ·)) {i : Nat} (hi : i ∈ l) (hle : ∀ y ∈ l, y ≤ i) (hp : 0 < l.length) : l[l.length - 1]'(by omega) = i := by
  obtain ⟨j, hj, rfl⟩ := List.getElem_of_mem hi
  rcases Nat.lt_or_ge j (l.length - 1) with h1 | h1
  · have h2 := List.pairwise_iff_getElem.1 h j (l.length - 1) hj (by omega) h1
    have h3 := hle _ (List.getElem_mem (h := (by omega : l.length - 1 < l.length)))
    omega
  · have : j = l.length - 1 := by omega
    subst this; rfl
def unfV (L : List Sig) (names : List ByteArray) (ks : List (List Int)) (i : Nat) : List Tg := if szP ks i ≤ 300 then ndV L names ks i else []
def UnPost (V : List Tg) (w : World) (e : Ending) (w' : World) : Prop := ∃ A c, e = .returned (.slice A V.length c) ∧ Rds w' w'.heap.size A (cellsG V) ∧ Q w w'
theorem un_none {L : List Sig} {names : List ByteArray} {ks : List (List Int)} {i : Nat} (h : 300 < szP ks i) : unfV L names ks i = [] := by unfold unfV; rw [if_neg (by omega)]
theorem un_some {L : List Sig} {names : List ByteArray} {ks : List (List Int)} {i : Nat} (h : szP ks i ≤ 300) : unfV L names ks i = ndV L names ks i := by unfold unfV; rw [if_pos h]
theorem UnPost.nil {w w' : World} (q : Q w w') : UnPost [] w (.returned (.slice none 0 0)) w' := ⟨none, 0, rfl, Rds.nil _ _ _, q⟩

/-- what a round wants to know of a term -/
structure AtU (L : List Sig) (names : List ByteArray) (ks : List (List Int)) (D : List Nat) (y : Nat) (t : Tm) : Prop where
  nd : ndV L names ks y = partsV L names ks t.xs ++ [oneN L names t]
  xs : ∀ a ∈ t.xs, 0 ≤ a ∧ a.toNat ∈ D ∧ a.toNat ≤ 1000000
  few : t.xs.length ≤ 8
  told : Told L t
  named : tellB names t = true
theorem atU {L : List Sig} {names : List ByteArray} {ks : List (List Int)} {bl : List Nat} {b i k : Nat} (h : StoOk L ks names b) (hb : b ≤ 1800) (hil : i < ks.length) (hV : VarsIn names ks i)
    (hso : bl.Pairwise (· < ·)) (hm : ∀ y, y ∈ bl ↔ Made ks i y) (hk : k < bl.length) : AtU L names ks (bl.take k) bl[k] (tmP ks bl[k]) := by
  have hM := (hm bl[k]).1 (List.getElem_mem hk)
  have hyl := hM.le
  have hy : bl[k] < ks.length := by omega
  obtain ⟨ht, g3, _⟩ := told_store h.store h.l8 hy
  have hkl := h.klen
  refine ⟨nodes_eq h.store hy, fun x hx => ?_, ?_, ht, ?_⟩
  · obtain ⟨p, q, r⟩ := part_small h.store hy hx
    obtain ⟨m, n⟩ := made_part h.store hy hM hx
    exact ⟨p, sorted_ahead hso hk ((hm _).2 m) n, by omega⟩
  · have hs := (Tm.Store.ok h.store bl[k] ks[bl[k]] (List.getElem?_eq_getElem hy))
    by_cases k3 : (tmP ks bl[k]).k = 3
    · exact g3 k3
    · have hM2 := (parts_ahead h.store (List.getElem?_eq_getElem hy)).2.1
      rw [← tmP_at hy] at hM2
      generalize tmP ks bl[k] = t at *
      unfold Tm.mayB at hM2
      simp only [Bool.and_eq_true] at hM2
      have hh := hM2.1.2
      unfold Tm.hasB at hh
      rw [if_neg k3, Bool.and_eq_true, beq_iff_eq] at hh
      have := hh.2
      unfold Tm.partsN at this
      split at this
      · omega
      · split at this
        · omega
        · split at this <;> omega
  · by_cases k2 : (tmP ks bl[k]).k = 2
    · exact tell_in (hV _ hM k2)
    · exact tell_not2 k2

set_option maxRecDepth 100000 in
set_option maxHeartbeats 8000000 in
theorem unfold_any (A S A1 B R : Option Addr) (c m d c1 ca cb Bn Bl b i : Nat) (bl : List Nat) (L : List Sig) (ks : List (List Int)) (names : List ByteArray) (w : World) (hk : Keys w w.heap.size A ks) (h1 : Ints w w.heap.size A1 (castL bl)) (hok : StoOk L ks names b) (hb : b ≤ 1800) (hil : i < ks.length) (hV : VarsIn names ks i)
    (hso : bl.Pairwise (· < ·)) (hm : ∀ y, y ∈ bl ↔ Made ks i y) (hBn : Bn < w.heap.size) (hBl : Bl < w.heap.size) (cn : w.cell? ⟨Bn, 0, none⟩ = some (.slice B names.length cb)) (cl : w.cell? ⟨Bl, 0, none⟩ = some (.slice R L.length ca)) (hL : Row w w.heap.size R L) (hN : Rds w w.heap.size B (cellsS names)) :
    Calls Tryz.prog 36 #[.agg #[.slice A ks.length c, .slice S m d], .slice A1 bl.length c1, .func (.func 67) #[] #[.pointer (some ⟨Bn, 0, none⟩), .pointer (some ⟨Bl, 0, none⟩)]] w (UnPost (unfV L names ks i) w) := by
  obtain ⟨i0, hi, hz0, hz1, hz2⟩ := info_parts nodeInfo
  have Hi := Lib.hid hi
  have Hz0 := Lib.hid hz0
  have Hz1 := Lib.hid hz1
  have Hz2 := Lib.hid hz2
  clear hi hz0 hz1 hz2
  have hself : i ∈ bl := (hm i).2 .self
  have hpos : 0 < bl.length := List.length_pos_of_mem hself
  have hlast := sorted_last hso hself (fun y hy => ((hm y).1 hy).le) hpos
  have hfew := below_few hok.store hil hso fun y hy => (hm y).1 hy
  have HFew := Lib.hid hfew
  have HU := Lib.hid (fun (k : Nat) (hk : k < bl.length) => atU hok hb hil hV hso hm hk)
  have HM := Lib.hid hm
  have HSt := Lib.hid hok.store
  have HX := Lib.hid (hok.kx (by omega))
  have hkl : ks.length ≤ 5000 := by have := hok.klen; omega
  have HLast := Lib.hid hlast
  have q0 := (Q.refl w).alloc (Obj.cells #[Value.slice A ks.length c, Value.slice S m d] 26)
  have HK := Lib.hid hk
  have HI1 := Lib.hid h1
  have HR := Lib.hid hL
  have HN := Lib.hid hN
  have HT := Lib.hid (BoxT.new w (Value.slice A ks.length c) (Value.slice S m d) 26)
  have HCn : Hid (∀ W, Q w W → Bn < W.heap.size ∧ Bl < W.heap.size ∧ W.cell? ⟨Bn, 0, none⟩ = some (.slice B names.length cb) ∧ W.cell? ⟨Bl, 0, none⟩ = some (.slice R L.length ca)) := fun W q =>
    ⟨Nat.lt_of_lt_of_le hBn q.size, Nat.lt_of_lt_of_le hBl q.size, (q.cell (p := ⟨Bn, 0, none⟩) hBn).trans cn, (q.cell (p := ⟨Bl, 0, none⟩) hBl).trans cl⟩
  have HQ0 := Lib.hid q0
  clear hk h1 hL hN cn cl hBn hBl hm hso hlast hV hok q0 hfew
  by_cases hmany : 300 < bl.length
  · have HV := Lib.hid (un_none (L := L) (names := names) (ks := ks) (i := i) (by have := HFew.out; omega))
    rw [HV.out]
    have d0 : (bl.length : Int) > 300 := by omega
    clear hmany
    go_enter Tryz.func36, Tryz.ntmps36
    go_wp2_with fail
    go_ret
    exact UnPost.nil HQ0.out
  · have d0 : ¬ (bl.length : Int) > 300 := by omega
    have hmm := @run_makeMap Tryz.prog
    go_enter Tryz.func36, Tryz.ntmps36
    go_wp2_with fail
    have HM0 := Lib.hid (rows_made (w.alloc (Obj.cells #[Value.slice A ks.length c, Value.slice S m d] 26)) (ndV L names ks))
    obtain ⟨g, hg⟩ : ∃ g, g = (w.alloc (Obj.cells #[Value.slice A ks.length c, Value.slice S m d] 26)).heap.size := ⟨_, rfl⟩
    have HQ1 := Lib.hid (HQ0.out.alloc (.map #[] 0))
    have HT1 := Lib.hid (HT.out.q ((Q.refl _).alloc (.map #[] 0)))
    have HG : Hid (w.heap.size ≤ g) := by rw [hg]; exact HQ0.out.size
    rw [← hg] at HM0
    have hg' : w.heap.size + 1 = g := by rw [hg]; simp
    have hg0 := hg'
    rw [hg']
    have hbl3 : bl.length ≤ 300 := by omega
    clear hg hg' hmm HT HQ0 hmany d0
    generalize (w.alloc (Obj.cells #[Value.slice A ks.length c, Value.slice S m d] 26)).alloc (.map #[] 0) = W0 at *
    have HNe : Hid (w.heap.size ≠ g) := by have := HT1.out.lt; have := hg0; unfold Hid; omega
    go_loopw [8, 23] (fun v iv wr => ∃ (k : Nat) (u : Value), k ≤ bl.length ∧ iv = .int .i64 k ∧ u = v ∧ Hid (RowsM wr g k (bl.take k) (ndV L names ks)) ∧ Hid (∀ (j : Nat) (hj : j < bl.length), j + 1 = k → RdV wr u (ndV L names ks bl[j])) ∧ Hid (∀ y ∈ bl.take k, szP ks y ≤ 300) ∧ Hid (BoxT wr w.heap.size (Value.slice A ks.length c) (Value.slice S m d)) ∧ Hid (Q w wr)) (fun _ iv _ => bl.length - (intOf iv).toNat)
    case atStart => exact ⟨0, _, Nat.zero_le _, rfl, rfl, HM0, Lib.hid (fun j hj e => by omega), Lib.hid (fun y hy => by cases hy), HT1, HQ1⟩
    case round =>
      obtain ⟨k, u, hk, rfl, rfl, HRows, HPrev, HS3, HBx, HQ⟩ := hrel
      clear HM0 HT1 HQ1
      by_cases hlt : k < bl.length
      · clear HPrev
        obtain ⟨ad, rfl, hadb, hy0⟩ := (HI1.out.q (Nat.le_refl _) HQ.out).at_ (k := k) (by rw [castL_len]; exact hlt)
        rw [castL_at hlt] at hy0
        have hyM := (HM.out bl[k]).1 (List.getElem_mem hlt)
        have hyl := hyM.le
        have hyk : bl[k] < ks.length := by omega
        have HTn := Lib.hid (termAt_ok HSt.out hyk)
        have HUk := Lib.hid (HU.out k hlt)
        have HTk : Hid (bl.take (k + 1) = bl.take k ++ [bl[k]]) := Lib.hid (by rw [List.take_succ_eq_append_getElem hlt])
        have HEnd : Hid (∀ wx v, RdV wx v (ndV L names ks bl[k]) → ∀ (j : Nat) (hj : j < bl.length), j + 1 = k + 1 → RdV wx v (ndV L names ks bl[j])) := fun wx v h j hj e => by
          obtain rfl : j = k := by omega
          exact h
        have HBig : Hid (300 < szP ks bl[k] → unfV L names ks i = []) := fun h => un_none (by have := below_size HSt.out hil hyM; omega)
        have HLen : Hid ((ndV L names ks bl[k]).length = szP ks bl[k]) := Lib.hid (ndV_len L names ks bl[k])
        have hy6 : bl[k] ≤ 1000000 := by omega
        generalize bl[k] = y at *
        generalize tmP ks y = t at *
        have b0 := HBx.out.c0
        have b1 := HBx.out.c1
        have CO := Lib.hid (of_any A S ks.length c m d ks (y : Int) wr rfl ((HK.out.q (Nat.le_refl _) HQ.out).more HQ.out.size) HX.out)
        clear hyM hyl hyk
        go_wp2_with fail
        refine CO.out.mono ?_
        rintro e w1 ⟨A3, N, c3, rfl, hN, hA3, q1⟩
        rw [HTn.out] at hN hA3 ⊢
        simp only [Option.getD_some, Option.isSome_some] at hN hA3 ⊢
        subst hN
        have HA3 := Lib.hid hA3
        have HB4 := Lib.hid (Box4.new w1 (.int .i64 t.k) (.int .i64 t.s) (.int .i64 t.p) (.slice A3 t.xs.length c3) 77)
        have qc := (Q.refl w1).alloc (Obj.cells #[.int .i64 t.k, .int .i64 t.s, .int .i64 t.p, .slice A3 t.xs.length c3] 77)
        have HQ1c := Lib.hid qc
        have HQc := Lib.hid (q1.trans qc)
        have hsz : w1.heap.size + 1 = (w1.alloc (Obj.cells #[.int .i64 t.k, .int .i64 t.s, .int .i64 t.p, .slice A3 t.xs.length c3] 77)).heap.size := by simp
        clear hA3 qc q1 CO b0 b1 hy0 HTn
        have x0 := HB4.out.c0
        have x1 := HB4.out.c1
        have x2 := HB4.out.c2
        have x3 := HB4.out.c3
        go_wp2_with fail
        generalize w1.alloc (Obj.cells #[.int .i64 t.k, .int .i64 t.s, .int .i64 t.p, .slice A3 t.xs.length c3] 77) = wc at *
        clear x0 x1 x2 x3
        go_loopw [8, 36] (fun v jv wx => ∃ (j : Nat) (P : List Tg) (u : Value), j ≤ t.xs.length ∧ jv = .int .i64 j ∧ u = v ∧ P.length ≤ 300 * j ∧ Hid (P = partsV L names ks (t.xs.take j)) ∧ Hid (wx.ownsRow wc.heap.size 67 3 u P.length (cellsG P)) ∧ Hid (Q wc wx)) (fun _ jv _ => t.xs.length - (intOf jv).toNat)
        case atStart => exact ⟨0, [], _, Nat.zero_le _, rfl, rfl, Nat.zero_le _, Lib.hid (by simp [partsV, Ex.nodesL]), Lib.hid (own_nil wc _ _ _), Lib.hid (Q.refl wc)⟩
        case round =>
          obtain ⟨j, P, v, hj, rfl, rfl, hP, HP, HO, HQx⟩ := hrel
          have hx8 := HUk.out.few
          by_cases hjl : j < t.xs.length
          · obtain ⟨ad3, rfl, had3, hx0⟩ := (HA3.out.q (Nat.le_refl _) (HQ1c.out.trans HQx.out)).at_ hjl
            obtain ⟨y0, y1, y2⟩ := HUk.out.xs t.xs[j] (List.getElem_mem hjl)
            obtain ⟨x, hx⟩ := Int.eq_ofNat_of_zero_le y0
            have HPn : Hid (P ++ ndV L names ks x = partsV L names ks (t.xs.take (j + 1))) := by
              unfold Hid
              rw [List.take_succ_eq_append_getElem hjl, partsV_snoc, hx, Int.toNat_natCast, HP.out]; rfl
            rw [hx] at hx0
            rw [hx, Int.toNat_natCast] at y1 y2
            obtain ⟨A4, c4, hlook, hr4⟩ := rows_look (HRows.out.q (HQc.out.trans HQx.out)) y1 y2
            have hl4 : (ndV L names ks x).length ≤ 300 := by rw [ndV_len]; exact HS3.out x y1
            obtain ⟨A5, c5, hve, _, hr5⟩ := own_read HO.out
            have HO' := HO
            rw [hve] at HO' ⊢
            have HRw := Lib.hid (rw2 (W := wr) (c0 := c5) (c1 := c4) 33 hr5 hr4 rfl rfl)
            have HQ2 := Lib.hid (HQx.out.alloc (Obj.cells #[.slice A5 P.length c5, .slice A4 (ndV L names ks x).length c4] 33))
            have hPX : (P ++ ndV L names ks x).length ≤ 300 * (j + 1) := by rw [List.length_append]; omega
            have HPX := Lib.hid hPX
            generalize ndV L names ks x = X at *
            clear hx y0 y1 y2 hr4 hr5 HP hve hl4 HO HO' hPX
            go_wp2_with fail
            refine (concat_nodes _ 2 2 [P, X] _ rfl HRw.out (by simp) (by have h := HPX.out; simp only [List.length_append] at h; simp; omega)).mono ?_
            rintro e w2 ⟨v2, rfl, own2, q2⟩
            have HO2 : Hid (w2.ownsRow wc.heap.size 67 3 v2 (P ++ X).length (cellsG (P ++ X))) := by
              have h := row_kept own2 (Q.refl w2) HQ2.out.size
              simp only [List.flatten_cons, List.flatten_nil, List.append_nil] at h
              exact h
            have HQ3 : Hid (Q wc w2) := HQ2.out.trans q2
            clear own2 q2
            go_wp2_with fail
            go_roundw
            case rel => exact ⟨j + 1, P ++ X, v2, by omega, by go_num, rfl, HPX.out, HPn, HO2, HQ3⟩
            case measure => simp [intOf]; omega
          · have hjx : j = t.xs.length := by omega
            have HND : Hid (ndV L names ks y = P ++ [oneN L names t]) := by
              unfold Hid
              rw [HUk.out.nd, HP.out, List.take_of_length_le (by omega)]
            have hlen : P.length + 1 = szP ks y := by
              have := HLen.out
              rw [HND.out] at this
              simpa using this
            have hB := HB4.out.q HQx.out
            have t0 := hB.c0
            have t1 := hB.c1
            have t2 := hB.c2
            have t3 := hB.c3
            have hqw : Q w wr := HQ.out.trans (HQc.out.trans HQx.out)
            obtain ⟨hb1, hb2, hb3, hb4⟩ := HCn.out wr hqw
            have CT := Lib.hid (tell_any Bn Bl R B A3 ca cb t.xs.length c3 L names t wr rfl hb1 hb2 hb3 hb4 ((HR.out.q (Nat.le_refl _) hqw).more hqw.size) (HN.out.q hqw) HUk.out.told)
            rw [HUk.out.named, tellN_of HUk.out.named] at CT
            have hP2 : P.length ≤ 2400 := by omega
            generalize oneN L names t = o at *
            clear HP hjx hB hqw hb1 hb2 hb3 hb4 hP
            go_wp2_with fail
            refine CT.out.mono ?_
            rintro e w4 ⟨rfl, q4⟩
            have HQ5 := Lib.hid (HQx.out.trans (q4.alloc (Obj.cells #[.int .i64 o.1, .string o.2.1, .int .i64 o.2.2] 67)))
            have HQ6 := Lib.hid (HQ5.out.alloc (Obj.cells #[.int .i64 o.1, .string o.2.1, .int .i64 o.2.2] 67))
            have HO6 := Lib.hid (row_kept HO.out ((q4.alloc (Obj.cells #[.int .i64 o.1, .string o.2.1, .int .i64 o.2.2] 67)).alloc (Obj.cells #[.int .i64 o.1, .string o.2.1, .int .i64 o.2.2] 67)) (Nat.le_refl _))
            have HSr : Hid (Src ((w4.alloc (Obj.cells #[.int .i64 o.1, .string o.2.1, .int .i64 o.2.2] 67)).alloc (Obj.cells #[.int .i64 o.1, .string o.2.1, .int .i64 o.2.2] 67)) (some ⟨w4.heap.size + 1, 0, none⟩) [.int .i64 o.1, .string o.2.1, .int .i64 o.2.2]) := by
              have := src_alloc (w4.alloc (Obj.cells #[.int .i64 o.1, .string o.2.1, .int .i64 o.2.2] 67)) [.int .i64 o.1, .string o.2.1, .int .i64 o.2.2] 67 (0, 0)
              rw [World.size_alloc] at this
              exact this
            clear q4 CT t0 t1 t2 t3
            by_cases hbig : 300 < P.length + 1
            · have HV := Lib.hid (HBig.out (by omega))
              have d1 : ((P.length + 1 : Nat) : Int) > 300 := by omega
              have d2 : (P.length : Int) + 1 > 300 := by omega
              clear hbig hlen
              go_wp2_with (at_builtin; refine wpList_append_src _ rfl (.tmp 53) (.tmp 55) _ rfl wc.heap.size 67 i0 _ 3 32 Tryz.underlying33 Hi.out Hz0.out Hz1.out Hz2.out rfl (by omega) v P.length (cellsG P) rfl HO6.out (some ⟨w4.heap.size + 1, 0, none⟩) 1 1 [.int .i64 o.1, .string o.2.1, .int .i64 o.2.2] rfl rfl HSr.out (by simp [Value.oneCell']) (by unfold maxLen; omega) (by omega) HQ6.out.size ?_; intro v' w' own' gr' _; obtain ⟨g', cap', rfl⟩ := own_slice own' (by omega); have Own7 := Lib.hid own'; have HQ7 : Hid (Q wc w') := Below.grown HQ6.out gr' HQ6.out.size (fun k e => (HO6.out.lt k e).1); clear own' gr')
              go_ret
              rw [HV.out]
              exact UnPost.nil (HQ.out.trans (HQc.out.trans HQ7.out))
            · have hle3 : szP ks y ≤ 300 := by omega
              have HS4 : Hid (∀ z ∈ bl.take (k + 1), szP ks z ≤ 300) := fun z hz => by
                rw [HTk.out] at hz
                simp only [List.mem_append, List.mem_cons, List.not_mem_nil, or_false] at hz
                rcases hz with hz | rfl
                · exact HS3.out z hz
                · exact hle3
              have d1 : ¬ ((P.length + 1 : Nat) : Int) > 300 := by omega
              have d2 : ¬ (P.length : Int) + 1 > 300 := by omega
              clear hbig hlen hle3
              go_wp2_with (at_builtin; refine wpList_append_src _ rfl (.tmp 53) (.tmp 55) _ rfl wc.heap.size 67 i0 _ 3 32 Tryz.underlying33 Hi.out Hz0.out Hz1.out Hz2.out rfl (by omega) v P.length (cellsG P) rfl HO6.out (some ⟨w4.heap.size + 1, 0, none⟩) 1 1 [.int .i64 o.1, .string o.2.1, .int .i64 o.2.2] rfl rfl HSr.out (by simp [Value.oneCell']) (by unfold maxLen; omega) (by omega) HQ6.out.size ?_; intro v' w' own' gr' _; obtain ⟨g', cap', rfl⟩ := own_slice own' (by omega); have Own7 := Lib.hid own'; have HQ7 : Hid (Q wc w') := Below.grown HQ6.out gr' HQ6.out.size (fun k e => (HO6.out.lt k e).1); clear own' gr'; have hrd : RdV w' (.slice (some ⟨g', 0, none⟩) (P.length + 1) cap') (ndV L names ks y) := (by rw [HND.out]; obtain ⟨A9, c9, e9, _, h9⟩ := own_read Own7.out; exact ⟨A9, c9, e9.trans (by simp), by rw [cellsG_append]; exact h9⟩); obtain ⟨w7, hput, hR7, hg7, hkp7⟩ := rows_put (HRows.out.q (HQc.out.trans HQ7.out)) y _ hy6 (by omega) hrd; have HR7 := Lib.hid hR7; have HRd7 := Lib.hid (hkp7 _ _ hrd); have HB7 := Lib.hid (box_grown (HBx.out.q (HQc.out.trans HQ7.out)) hg7 HNe.out); have HQw7 : Hid (Q w w7) := Below.grown (HQ.out.trans (HQc.out.trans HQ7.out)) hg7 (HQ.out.trans (HQc.out.trans HQ7.out)).size (fun i e => by injection e with e; subst e; exact HG.out); clear hrd hR7 hg7 hkp7)
              go_roundw
              case rel => exact ⟨k + 1, _, by omega, by go_num, rfl, by rw [HTk.out]; exact HR7, Lib.hid (HEnd.out _ _ HRd7.out), HS4, HB7, HQw7⟩
              case measure => simp [intOf]; omega
      · have hkx : k = bl.length := by omega
        have hR := HPrev.out (bl.length - 1) (by omega) (by omega)
        rw [HLast.out] at hR
        have hle : szP ks i ≤ 300 := HS3.out i (by rw [hkx, List.take_length]; exact hself)
        have HVs := Lib.hid (un_some hle (L := L) (names := names))
        obtain ⟨A9, c9, rfl, hr9⟩ := hR
        have HR9 := Lib.hid hr9
        clear HPrev HRows HS3 hr9 hkx
        go_wp2_with fail
        go_ret
        rw [HVs.out]
        exact ⟨A9, c9, rfl, HR9.out, HQ.out⟩
end Go.Proofs.YtdmdcggmgipdbaaGreatDoor.Ld

namespace Go.Proofs.YtdmdcggmgipdbaaGreatDoor.Ex
open Go.RowKit Kit Rw
open Go.Proofs.YtdmdcggmgipdbaaGreatDoor.Nm

/-- a piece of a text: some bytes, or a place -/
abbrev Pc := ByteArray × Int
def cellsPc : List Pc → List Value
  | [] => []
  | p :: l => .string p.1 :: .int .i64 p.2 :: cellsPc l
theorem cellsPc_len (l : List Pc) : (cellsPc l).length = l.length * 2 := by
  induction l with
  | nil => rfl
  | cons s l ih => simp [cellsPc, ih]; omega
theorem cellsPc_app (a b : List Pc) : cellsPc (a ++ b) = cellsPc a ++ cellsPc b := by
  induction a with
  | nil => rfl
  | cons s l ih => simp [cellsPc, ih]
theorem cellsPc_one (l : List Pc) : ∀ v ∈ cellsPc l, v.oneCell' = true := by
  induction l with
  | nil => simp [cellsPc]
  | cons s l ih => simp only [cellsPc, List.mem_cons]; rintro v (rfl | rfl | h); exact rfl; exact rfl; exact ih v h
theorem cellsPc_at : ∀ (l : List Pc) (k : Nat) (h : k < l.length), (cellsPc l)[k * 2]? = some (.string l[k].1) ∧ (cellsPc l)[k * 2 + 1]? = some (.int .i64 l[k].2)
  | p :: l, 0, _ => ⟨rfl, rfl⟩
  | p :: l, k + 1, h => by
    have := cellsPc_at l k (by simpa using h)
    rw [show (k + 1) * 2 = k * 2 + 1 + 1 by omega]
    exact this
def sayP (s : ByteArray) : Pc := (s, -1)
def atP (j : Nat) : Pc := (⟨#[]⟩, (j : Int))
/-- what a piece says -/
def pcL (l : List Tg) (p : Pc) : List UInt8 := if p.2 = -1 then p.1.data.toList else textAt l p.2.toNat
def pcsL (l : List Tg) : List Pc → List UInt8
  | [] => []
  | p :: r => pcL l p ++ pcsL l r
theorem pcsL_app (l : List Tg) (a b : List Pc) : pcsL l (a ++ b) = pcsL l a ++ pcsL l b := by
  induction a with
  | nil => rfl
  | cons p a ih => simp [pcsL, ih]
theorem pcL_say (l : List Tg) (s : ByteArray) : pcL l (sayP s) = s.data.toList := rfl
theorem pcL_at (l : List Tg) (j : Nat) : pcL l (atP j) = textAt l j := by
  unfold pcL atP
  rw [if_neg (by show ¬ ((j : Int) = -1); omega)]
  rfl
/-- what is still to be done for a piece -/
def sizeAt (l : List Tg) (j : Nat) : Nat := match treeAt l j with
  | some c => c.size
  | none => 0
theorem size_of {l : List Tg} {j : Nat} {c : Ex} (h : treeAt l j = some c) : sizeAt l j = c.size := by unfold sizeAt; rw [h]
def pcW (l : List Tg) (p : Pc) : Nat := if p.2 = -1 then 1 else 16 * sizeAt l p.2.toNat
def pcsW (l : List Tg) : List Pc → Nat
  | [] => 0
  | p :: r => pcW l p + pcsW l r
theorem pcsW_app (l : List Tg) (a b : List Pc) : pcsW l (a ++ b) = pcsW l a + pcsW l b := by
  induction a with
  | nil => simp [pcsW]
  | cons p a ih => simp [pcsW, ih]; omega
theorem pcsW_rev (l : List Tg) (a : List Pc) : pcsW l a.reverse = pcsW l a := by
  induction a with
  | nil => rfl
  | cons p a ih => simp [pcsW_app, pcsW, ih]; omega
theorem pcW_say (l : List Tg) (s : ByteArray) : pcW l (sayP s) = 1 := rfl
theorem pcW_at (l : List Tg) (j : Nat) : pcW l (atP j) = 16 * sizeAt l j := by
  unfold pcW atP
  rw [if_neg (by show ¬ ((j : Int) = -1); omega)]
  rfl
/-- bytes, or a place in the row -/
def PcOk (l : List Tg) (p : Pc) : Prop := (∃ s, p = sayP s) ∨ ∃ j, p = atP j ∧ j < l.length
theorem pcW_pos {l : List Tg} {st : List Ex} (hs : runS [] l = some st) {p : Pc} (h : PcOk l p) : 0 < pcW l p := by
  rcases h with ⟨s, rfl⟩ | ⟨j, rfl, hj⟩
  · rw [pcW_say]; omega
  · obtain ⟨sk, hsk⟩ := run_take hs j
    obtain ⟨h, _⟩ := tree_at hs hj hsk
    rw [pcW_at, size_of h]
    have := size_pos (Ex.mk l[j] (sk.take (np l[j])).reverse)
    omega
theorem pcsW_len {l : List Tg} {st : List Ex} (hs : runS [] l = some st) : ∀ {ps : List Pc} (_ : ∀ p ∈ ps, PcOk l p), ps.length ≤ pcsW l ps
  | [], _ => Nat.le_refl _
  | p :: ps, h => by
    have h1 := pcW_pos hs (h p (by simp))
    have h2 := pcsW_len hs (ps := ps) fun x hx => h x (by simp [hx])
    simp only [pcsW, List.length_cons]
    omega

/-- the parts of a constructor -/
def conP (b : Bool) : List Nat → List Pc
  | [] => []
  | k :: r => sayP (if b = true then ⟨#[40]⟩ else ⟨#[44]⟩) :: atP k :: conP false r
theorem conP_app (b : Bool) (K : List Nat) (k : Nat) : conP b (K ++ [k]) = conP b K ++ [sayP (if b = true ∧ K = [] then ⟨#[40]⟩ else ⟨#[44]⟩), atP k] := by
  induction K generalizing b with
  | nil => cases b <;> simp [conP]
  | cons q K ih => simp [conP, ih]
theorem conP_len (b : Bool) (K : List Nat) : (conP b K).length = 2 * K.length := by
  induction K generalizing b with
  | nil => rfl
  | cons q K ih => simp [conP, ih]; omega
/-- a part of two, with its brackets -/
def jointP (l : List Tg) (nk : Int) (k : Nat) (last : Bool) : List Pc := if inBr nk (l[k]?.map (·.1) |>.getD 0) last = true then [sayP ⟨#[40]⟩, atP k, sayP ⟨#[41]⟩] else [atP k]
/-- the pieces of a node -/
def pcs (l : List Tg) (t : Tg) (a : Nat) (K : List Nat) : List Pc :=
  if t.1 = 0 then [sayP ⟨#[48]⟩] else if t.1 = 1 then [sayP ⟨#[49]⟩] else if t.1 = 3 then sayP t.2.1 :: (conP true K ++ (if K = [] then [] else [sayP ⟨#[41]⟩]))
  else if t.1 = 4 then jointP l 4 (K[0]?.getD 0) false ++ sayP ⟨#[124]⟩ :: jointP l 4 (K[1]?.getD 0) true
  else if t.1 = 5 then jointP l 5 (K[0]?.getD 0) false ++ sayP ⟨#[38]⟩ :: jointP l 5 (K[1]?.getD 0) true
  else if t.1 = 6 then [sayP t.2.1, sayP ⟨#[126]⟩, sayP ⟨#[figD t.2.2.toNat]⟩, sayP ⟨#[40]⟩, atP (a - 1), sayP ⟨#[41]⟩] else [sayP t.2.1]

theorem conP_text {l : List Tg} {a : Nat} : ∀ {ks : List Ex} {K : List Nat} (b : Bool), Ends l a ks K → pcsL l (conP b K) = conL b (textsP ks)
  | [], K, b, h => by
    have : K = [] := List.length_eq_zero_iff.1 h.len
    subst this; rfl
  | e :: ks, [], b, h => absurd h.len (by simp)
  | e :: ks, k :: K, b, h => by
    have h0 := h.each 0 (by simp) (by simp)
    have hr : Ends l a ks K := ⟨by have := h.len; simpa using this, fun i h1 h2 => by have := h.each (i + 1) (by simp; omega) (by simp; omega); simpa using this⟩
    simp only [conP, pcsL, pcL_say, pcL_at, conP_text false hr, textsP, conL]
    have e1 : treeAt l k = some e := h0.2
    rw [text_of e1]
    cases b <;> simp
theorem conP_w {l : List Tg} {a : Nat} : ∀ {ks : List Ex} {K : List Nat} (b : Bool), Ends l a ks K → pcsW l (conP b K) = K.length + 16 * (nodesL ks).length
  | [], K, b, h => by
    have : K = [] := List.length_eq_zero_iff.1 h.len
    subst this; rfl
  | e :: ks, [], b, h => absurd h.len (by simp)
  | e :: ks, k :: K, b, h => by
    have h0 := h.each 0 (by simp) (by simp)
    have hr : Ends l a ks K := ⟨by have := h.len; simpa using this, fun i h1 h2 => by have := h.each (i + 1) (by simp; omega) (by simp; omega); simpa using this⟩
    have e1 : treeAt l k = some e := h0.2
    simp only [conP, pcsW, pcW_say, pcW_at, conP_w false hr, size_of e1, nodesL, List.length_append, List.length_cons, Ex.size]
    omega
theorem jointP_text {l : List Tg} {st : List Ex} (hs : runS [] l = some st) (nk : Int) {k : Nat} (last : Bool) {e : Ex} (hk : k < l.length) (ht : treeAt l k = some e) (h36 : nk = 4 ∨ nk = 5) : pcsL l (jointP l nk k last) = sideL nk (!last) (e.root.1, e.text) := by
  have hr : (l[k]?.map (·.1) |>.getD 0) = e.root.1 := by rw [List.getElem?_eq_getElem hk, root_of hs hk ht]; rfl
  unfold jointP sideL inBr
  rw [hr]
  have h1 : ¬ (nk = 3 ∨ nk = 6) := by omega
  rw [if_neg h1]
  by_cases h2 : e.root.1 = 4 ∨ e.root.1 = 5
  · rw [if_pos h2]
    cases last
    · by_cases h3 : e.root.1 = nk
      · rw [if_neg (by simp [h3]), if_neg (by simp [h3])]
        simp [pcsL, pcL_at, text_of ht]
      · rw [if_pos (by simp [h3]), if_pos ⟨h2, .inr h3⟩]
        simp [pcsL, pcL_at, pcL_say, text_of ht]
    · rw [if_pos (by simp), if_pos ⟨h2, .inl rfl⟩]
      simp [pcsL, pcL_at, pcL_say, text_of ht]
  · rw [if_neg h2, if_neg (by simp), if_neg fun h => h2 h.1]
    simp [pcsL, pcL_at, text_of ht]
theorem jointP_w {l : List Tg} (nk : Int) {k : Nat} (last : Bool) {e : Ex} (ht : treeAt l k = some e) : pcsW l (jointP l nk k last) ≤ 2 + 16 * e.nodes.length := by
  unfold jointP
  split <;> simp only [pcsW, pcW_say, pcW_at, size_of ht, Ex.size] <;> omega
theorem jointP_len (l : List Tg) (nk : Int) (k : Nat) (last : Bool) : (jointP l nk k last).length ≤ 3 := by
  unfold jointP; split <;> simp
theorem ok_say (l : List Tg) (s : ByteArray) : PcOk l (sayP s) := .inl ⟨s, rfl⟩
theorem conP_ok {l : List Tg} : ∀ {K : List Nat} (b : Bool), (∀ k ∈ K, k < l.length) → ∀ p ∈ conP b K, PcOk l p
  | [], b, _, p, hp => by cases hp
  | k :: K, b, h, p, hp => by
    simp only [conP, List.mem_cons] at hp
    rcases hp with rfl | rfl | hp
    · exact ok_say _ _
    · exact .inr ⟨k, rfl, h k (by simp)⟩
    · exact conP_ok false (fun x hx => h x (by simp [hx])) p hp
theorem jointP_ok {l : List Tg} (nk : Int) {k : Nat} (last : Bool) (hk : k < l.length) : ∀ p ∈ jointP l nk k last, PcOk l p := by
  unfold jointP
  split
  · simp only [List.mem_cons, List.not_mem_nil, or_false]
    rintro p (rfl | rfl | rfl)
    · exact ok_say _ _
    · exact .inr ⟨k, rfl, hk⟩
    · exact ok_say _ _
  · simp only [List.mem_cons, List.not_mem_nil, or_false]
    rintro p rfl
    exact .inr ⟨k, rfl, hk⟩
theorem two_of {α : Type} {L : List α} (h : L.length = 2) : ∃ a b, L = [a, b] := by
  match L, h with
  | [a, b], _ => exact ⟨a, b, rfl⟩
/-- the pieces of a node say its text, and are less work -/
theorem pcs_all {l : List Tg} {st : List Ex} (hs : runS [] l = some st) {a : Nat} (ha : a < l.length) (hm : mayN l[a] = true) {sk : List Ex} (hsk : runS [] (l.take a) = some sk) {K : List Nat} (hE : Ends l a (sk.take (np l[a])).reverse K) (hN : NearK a K) :
    pcsL l (pcs l l[a] a K) = textAt l a ∧ pcsW l (pcs l l[a] a K) < 16 * sizeAt l a ∧ (∀ p ∈ pcs l l[a] a K, PcOk l p) ∧ (pcs l l[a] a K).length ≤ 20 := by
  obtain ⟨ht, hnp⟩ := tree_at hs ha hsk
  rw [text_of ht, size_of ht]
  have hlen : K.length = np l[a] := by rw [hE.len, List.length_reverse, List.length_take]; omega
  have h8 := (parts_nat hm).2
  have hKa : ∀ i (h : i < K.length), K[i] < l.length := fun i h => by
    have := (hE.each i h (by rw [← hE.len]; exact h)).1; omega
  generalize hks : (sk.take (np l[a])).reverse = ks at *
  have hsz : (Ex.mk l[a] ks).size = 1 + (nodesL ks).length := by simp [Ex.size, Ex.nodes]; omega
  rw [hsz]
  have hkl : ks.length = np l[a] := by rw [← hE.len, hlen]
  unfold Ex.text txt pcs
  generalize l[a] = t at *
  rcases may_kinds hm with h | h | h | h | h | h | h
  · simp only [h, if_true]
    exact ⟨rfl, by simp only [pcsW, pcW_say]; omega, by simp only [List.mem_cons, List.not_mem_nil, or_false]; rintro p rfl; exact ok_say _ _, by simp⟩
  · simp only [h, if_true, if_neg (show ¬ (1 : Int) = 0 by omega)]
    exact ⟨rfl, by simp only [pcsW, pcW_say]; omega, by simp only [List.mem_cons, List.not_mem_nil, or_false]; rintro p rfl; exact ok_say _ _, by simp⟩
  · rw [h]
    simp only [show ¬ ((2 : Int) = 0) by omega, show ¬ ((2 : Int) = 1) by omega, show ¬ ((2 : Int) = 3) by omega, show ¬ ((2 : Int) = 4) by omega, show ¬ ((2 : Int) = 5) by omega, show ¬ ((2 : Int) = 6) by omega, if_false]
    exact ⟨by simp [pcsL, pcL_say, nm], by simp only [pcsW, pcW_say]; omega, by simp only [List.mem_cons, List.not_mem_nil, or_false]; rintro p rfl; exact ok_say _ _, by simp⟩
  · rw [h]
    simp only [show ¬ ((3 : Int) = 0) by omega, show ¬ ((3 : Int) = 1) by omega, if_false, if_true]
    have hnil : K = [] ↔ textsP ks = [] := by
      rw [← List.length_eq_zero_iff, ← List.length_eq_zero_iff, textsP_len, hE.len]
    refine ⟨?_, ?_, ?_, ?_⟩
    · simp only [pcsL, pcL_say, pcsL_app, conP_text true hE]
      by_cases hK : K = []
      · rw [if_pos hK, if_pos (hnil.1 hK)]; simp [pcsL, nm]
      · rw [if_neg hK, if_neg fun x => hK (hnil.2 x)]; simp [pcsL, nm, pcL_say]
    · simp only [pcsW, pcW_say, pcsW_app, conP_w true hE]
      split <;> simp only [pcsW, pcW_say] <;> omega
    · intro p hp
      simp only [List.mem_cons, List.mem_append] at hp
      rcases hp with rfl | hp | hp
      · exact ok_say _ _
      · refine conP_ok true (fun k hk => ?_) p hp
        obtain ⟨i, hi, rfl⟩ := List.mem_iff_getElem.1 hk
        exact hKa i hi
      · split at hp
        · cases hp
        · simp only [List.mem_cons, List.not_mem_nil, or_false] at hp
          subst hp; exact ok_say _ _
    · simp only [List.length_cons, List.length_append, conP_len]
      split <;> simp <;> omega
  · have h2 := np_two hm (.inl h)
    rw [h2] at hlen hkl
    obtain ⟨k0, k1, rfl⟩ := two_of hlen
    obtain ⟨e0, e1, rfl⟩ := two_of hkl
    have t0 := (hE.each 0 (by simp) (by simp)).2
    have t1 := (hE.each 1 (by simp) (by simp)).2
    have l0 := hKa 0 (by simp)
    have l1 := hKa 1 (by simp)
    simp only [List.getElem_cons_zero, List.getElem_cons_succ] at t0 t1 l0 l1
    rw [h]
    simp only [show ¬ ((4 : Int) = 0) by omega, show ¬ ((4 : Int) = 1) by omega, show ¬ ((4 : Int) = 3) by omega, if_false, if_true, List.getElem?_cons_zero, List.getElem?_cons_succ, Option.getD_some]
    refine ⟨?_, ?_, ?_, ?_⟩
    · rw [pcsL_app]
      simp only [pcsL, pcL_say]
      rw [jointP_text hs 4 false l0 t0 (.inl rfl), jointP_text hs 4 true l1 t1 (.inl rfl), nth_at [e0, e1] 0 (by simp), nth_at [e0, e1] 1 (by simp)]
      rfl
    · have w0 := jointP_w 4 false t0
      have w1 := jointP_w 4 true t1
      simp only [pcsW_app, pcsW, pcW_say, nodesL, List.append_nil, List.length_append] at w0 w1 ⊢
      omega
    · intro p hp
      simp only [List.mem_append, List.mem_cons] at hp
      rcases hp with hp | rfl | hp
      · exact jointP_ok 4 false l0 p hp
      · exact ok_say _ _
      · exact jointP_ok 4 true l1 p hp
    · have w0 := jointP_len l 4 k0 false
      have w1 := jointP_len l 4 k1 true
      simp only [List.length_append, List.length_cons]
      omega
  · have h2 := np_two hm (.inr h)
    rw [h2] at hlen hkl
    obtain ⟨k0, k1, rfl⟩ := two_of hlen
    obtain ⟨e0, e1, rfl⟩ := two_of hkl
    have t0 := (hE.each 0 (by simp) (by simp)).2
    have t1 := (hE.each 1 (by simp) (by simp)).2
    have l0 := hKa 0 (by simp)
    have l1 := hKa 1 (by simp)
    simp only [List.getElem_cons_zero, List.getElem_cons_succ] at t0 t1 l0 l1
    rw [h]
    simp only [show ¬ ((5 : Int) = 0) by omega, show ¬ ((5 : Int) = 1) by omega, show ¬ ((5 : Int) = 3) by omega, show ¬ ((5 : Int) = 4) by omega, if_false, if_true, List.getElem?_cons_zero, List.getElem?_cons_succ, Option.getD_some]
    refine ⟨?_, ?_, ?_, ?_⟩
    · rw [pcsL_app]
      simp only [pcsL, pcL_say]
      rw [jointP_text hs 5 false l0 t0 (.inr rfl), jointP_text hs 5 true l1 t1 (.inr rfl), nth_at [e0, e1] 0 (by simp), nth_at [e0, e1] 1 (by simp)]
      rfl
    · have w0 := jointP_w 5 false t0
      have w1 := jointP_w 5 true t1
      simp only [pcsW_app, pcsW, pcW_say, nodesL, List.append_nil, List.length_append] at w0 w1 ⊢
      omega
    · intro p hp
      simp only [List.mem_append, List.mem_cons] at hp
      rcases hp with hp | rfl | hp
      · exact jointP_ok 5 false l0 p hp
      · exact ok_say _ _
      · exact jointP_ok 5 true l1 p hp
    · have w0 := jointP_len l 5 k0 false
      have w1 := jointP_len l 5 k1 true
      simp only [List.length_append, List.length_cons]
      omega
  · obtain ⟨n1, m, _, _, _⟩ := np_proj hm h
    rw [n1] at hlen hkl
    obtain ⟨k0, rfl⟩ : ∃ k0, K = [k0] := by
      match K, hlen with
      | [a], _ => exact ⟨a, rfl⟩
    obtain ⟨e0, rfl⟩ : ∃ e0, ks = [e0] := by
      match ks, hkl with
      | [a], _ => exact ⟨a, rfl⟩
    have t0 := (hE.each 0 (by simp) (by simp)).2
    have l0 := hKa 0 (by simp)
    have hk0 := (hN 0 (by simp)).2 (by simp)
    simp only [List.getElem_cons_zero] at t0 l0 hk0
    have ea : a - 1 = k0 := by omega
    rw [h, ea]
    simp only [show ¬ ((6 : Int) = 0) by omega, show ¬ ((6 : Int) = 1) by omega, show ¬ ((6 : Int) = 3) by omega, show ¬ ((6 : Int) = 4) by omega, show ¬ ((6 : Int) = 5) by omega, if_false, if_true]
    refine ⟨?_, ?_, ?_, ?_⟩
    · simp only [pcsL, pcL_say, pcL_at, text_of t0, nth_at [e0] 0 (by simp)]
      simp [nm]
    · simp only [pcsW, pcW_say, pcW_at, size_of t0, nodesL, List.append_nil, Ex.size]
      omega
    · simp only [List.mem_cons, List.not_mem_nil, or_false]
      rintro p (rfl | rfl | rfl | rfl | rfl | rfl)
      · exact ok_say _ _
      · exact ok_say _ _
      · exact ok_say _ _
      · exact ok_say _ _
      · exact .inr ⟨k0, rfl, l0⟩
      · exact ok_say _ _
    · simp
end Go.Proofs.YtdmdcggmgipdbaaGreatDoor.Ex

namespace Go.Proofs.YtdmdcggmgipdbaaGreatDoor.Ex
open Go.RowKit Kit Rw
open Go.Proofs.YtdmdcggmgipdbaaGreatDoor.Nm

theorem pieceInfo : (Tryz.prog.info? 121).map (fun i => (i.zero, i.size, i.bytes)) = some (some (.agg #[.string ⟨#[]⟩, .int .i64 0]), 2, 24) := by kernel_rfl
def PcsPost (ps : List Pc) (w : World) (e : Ending) (w' : World) : Prop :=
  ∃ g cap, e = .returned (.slice (some ⟨g, 0, none⟩) ps.length cap) ∧ w'.ownsRow w.heap.size 121 2 (.slice (some ⟨g, 0, none⟩) ps.length cap) ps.length (cellsPc ps) ∧ Q w w'
theorem pcs_lit {w W : World} (ps : List Pc) (cs : Array Value) (q : Q w W) (hc : cs = (cellsPc ps).toArray) (n : Nat) (hn : n = ps.length) (hl : ps.length ≤ 1000) : PcsPost ps w (.returned (.slice (some ⟨W.heap.size, 0, none⟩) n n)) (W.alloc (.cells cs 121)) := by
  subst hc hn
  have := World.ownsRow_lit (base := w.heap.size) (e := 121) (size := 2) W (cellsPc ps).toArray ps.length q.size (by unfold maxLen; omega) (by simp [cellsPc_len])
  exact ⟨_, _, rfl, by simpa using this, q.alloc _⟩

set_option maxRecDepth 100000 in
set_option maxHeartbeats 1000000 in
theorem say_any (s : ByteArray) (w : World) :
    Calls Tryz.prog 104 #[.string s] w fun e w' => e = .returned (.agg #[.string s, .int .i64 (-1)]) ∧ Q w w' := by
  have hq := (Q.refl w).alloc (Obj.cells #[.string s, .int .i64 (-1)] 121)
  go_enter Tryz.func104, Tryz.ntmps104
  go_wp2_with fail
  refine bodyPost_ret (v := .agg #[.string s, .int .i64 (-1)]) (by simp [results, Tryz.f104, go_sem]) rfl ?_
  exact ⟨rfl, hq⟩

set_option maxRecDepth 100000 in
set_option maxHeartbeats 1000000 in
theorem textOf_any (k : Nat) (w : World) :
    Calls Tryz.prog 76 #[.int .i64 (k : Int)] w fun e w' => e = .returned (.agg #[.string ⟨#[]⟩, .int .i64 (k : Int)]) ∧ Q w w' := by
  have hq := (Q.refl w).alloc (Obj.cells #[.string ⟨#[]⟩, .int .i64 (k : Int)] 121)
  go_enter Tryz.func76, Tryz.ntmps76
  go_wp2_with fail
  refine bodyPost_ret (v := .agg #[.string ⟨#[]⟩, .int .i64 (k : Int)]) (by simp [results, Tryz.f76, go_sem]) rfl ?_
  exact ⟨rfl, hq⟩

set_option maxHeartbeats 1000000 in
theorem zero_any (A S : Option Addr) (n c m d : Nat) (a : Nat) (w : World) :
    Calls Tryz.prog 90 #[.agg #[.slice A n c, .slice S m d], .int .i64 (a : Int)] w (PcsPost [sayP ⟨#[48]⟩] w) := by
  have hq := (Q.refl w).alloc (Obj.cells #[Value.slice A n c, Value.slice S m d] 112)
  go_enter Tryz.func90, Tryz.ntmps90
  go_wp2_with (go_at_call 104; refine (say_any _ _).mono ?_; rintro e w1 ⟨rfl, q1⟩; have HQ1 := Lib.hid (hq.trans q1); clear q1)
  go_ret
  exact pcs_lit [sayP ⟨#[48]⟩] _ HQ1.out rfl _ rfl (by simp)

set_option maxHeartbeats 1000000 in
theorem one_any (A S : Option Addr) (n c m d : Nat) (a : Nat) (w : World) :
    Calls Tryz.prog 91 #[.agg #[.slice A n c, .slice S m d], .int .i64 (a : Int)] w (PcsPost [sayP ⟨#[49]⟩] w) := by
  have hq := (Q.refl w).alloc (Obj.cells #[Value.slice A n c, Value.slice S m d] 112)
  go_enter Tryz.func91, Tryz.ntmps91
  go_wp2_with (go_at_call 104; refine (say_any _ _).mono ?_; rintro e w1 ⟨rfl, q1⟩; have HQ1 := Lib.hid (hq.trans q1); clear q1)
  go_ret
  exact pcs_lit [sayP ⟨#[49]⟩] _ HQ1.out rfl _ rfl (by simp)

set_option maxRecDepth 100000 in
set_option maxHeartbeats 1000000 in
theorem pname_any (A S : Option Addr) (n c m d : Nat) (l : List Tg) (a : Nat) (w : World) (hn : n = l.length) (hr : Rds w w.heap.size A (cellsG l)) (ha : a < l.length) :
    Calls Tryz.prog 92 #[.agg #[.slice A n c, .slice S m d], .int .i64 (a : Int)] w (PcsPost [sayP l[a].2.1] w) := by
  subst hn
  have hq := (Q.refl w).alloc (Obj.cells #[Value.slice A l.length c, Value.slice S m d] 112)
  have hbx := own_new w [Value.slice A l.length c, Value.slice S m d] 112
  have b0 := (hbx.2 0 _ rfl).1
  obtain ⟨ad, rfl, hb, c0, c1, c2⟩ := tok_at (hr.q hq) ha
  have HQ := Lib.hid hq
  clear hbx hr hq
  go_enter Tryz.func92, Tryz.ntmps92
  go_wp2_with (go_at_call 104; refine (say_any _ _).mono ?_; rintro e w1 ⟨rfl, q1⟩; have HQ1 := Lib.hid (HQ.out.trans q1); clear q1)
  go_ret
  exact pcs_lit [sayP l[a].2.1] _ HQ1.out rfl _ rfl (by simp)

set_option maxRecDepth 100000 in
set_option maxHeartbeats 1000000 in
theorem joint_any (A S : Option Addr) (n c m d : Nat) (l : List Tg) (a p : Nat) (w : World) (hn : n = l.length) (hr : Rds w w.heap.size A (cellsG l)) (ha : a < l.length) (hp : p < l.length) (hl : l.length ≤ 1000000) :
    Calls Tryz.prog 116 #[.agg #[.slice A n c, .slice S m d], .int .i64 (a : Int), .int .i64 (p : Int)] w (PcsPost (jointP l l[a].1 p (decide (p + 1 = a))) w) := by
  subst hn
  have hq := (Q.refl w).alloc (Obj.cells #[Value.slice A l.length c, Value.slice S m d] 112)
  have hbx := own_new w [Value.slice A l.length c, Value.slice S m d] 112
  have b0 := (hbx.2 0 _ rfl).1
  have b1 := (hbx.2 1 _ rfl).1
  have CI := Lib.hid (isIn_any A S l.length c m d l a p _ rfl (hr.q hq) ha hp hl)
  have HQ := Lib.hid hq
  have HE : Hid (jointP l l[a].1 p (decide (p + 1 = a)) = if inBr l[a].1 l[p].1 (decide (p + 1 = a)) = true then [sayP ⟨#[40]⟩, atP p, sayP ⟨#[41]⟩] else [atP p]) := by
    unfold Hid jointP; rw [List.getElem?_eq_getElem hp]; rfl
  clear hbx hr hq
  cases hin : inBr l[a].1 l[p].1 (decide (p + 1 = a))
  · rw [hin] at CI HE
    go_enter Tryz.func116, Tryz.ntmps116
    go_wp2_with (first
      | (go_at_call 73; refine CI.out.mono ?_; rintro e w1 ⟨rfl, q1⟩; have HQ1 := Lib.hid (HQ.out.trans q1); clear q1)
      | (go_at_call 76; refine (textOf_any _ _).mono ?_; rintro e w2 ⟨rfl, q2⟩; have HQ2 := Lib.hid (HQ1.out.trans q2); clear q2))
    go_ret
    rw [HE.out]
    exact pcs_lit [atP p] _ HQ2.out rfl _ rfl (by simp)
  · rw [hin] at CI HE
    go_enter Tryz.func116, Tryz.ntmps116
    go_wp2_with (first
      | (go_at_call 73; refine CI.out.mono ?_; rintro e w1 ⟨rfl, q1⟩; have HQ1 := Lib.hid (HQ.out.trans q1); clear q1)
      | (go_at_call 104; refine (say_any _ _).mono ?_; rintro e w2 ⟨rfl, q2⟩; replace HQ1 := Lib.hid (HQ1.out.trans q2); clear q2)
      | (go_at_call 76; refine (textOf_any _ _).mono ?_; rintro e w2 ⟨rfl, q2⟩; replace HQ1 := Lib.hid (HQ1.out.trans q2); clear q2))
    go_ret
    rw [HE.out]
    exact pcs_lit [sayP ⟨#[40]⟩, atP p, sayP ⟨#[41]⟩] _ HQ1.out rfl _ rfl (by simp)
end Go.Proofs.YtdmdcggmgipdbaaGreatDoor.Ex

namespace Go.Proofs
open Go.Shelf
def Tryz.lays171_ren : Go.Shelf.Ren := ⟨fun | 171 => 106 | 243 => 117 | 246 => 126 | 283 => 130 | 284 => 131 | 285 => 132 | 286 => 133 | 129 => 135 | 317 => 134 | 318 => 136 | 319 => 137 | 320 => 138 | 337 => 139 | 338 => 140 | n => n, fun | 3 => 3 | 9 => 9 | 2 => 2 | 4 => 4 | 171 => 169 | 0 => 0 | 53 => 145 | 37 => 117 | 5 => 5 | 173 => 172 | 212 => 175 | 51 => 134 | 20 => 20 | 213 => 176 | 46 => 177 | 232 => 180 | 233 => 181 | n => n, fun | 17 => 0 | 18 => 1 | 19 => 2 | n => n⟩
theorem Tryz.lays171 : Go.Proofs.Lays.n171 Tryz.prog Tryz.lays171_ren := {
  mixed := by kernel_rfl
  f129 := Tryz.func135.trans (congrArg some (by kernel_rfl))
  f171 := Tryz.func106.trans (congrArg some (by kernel_rfl))
  f243 := Tryz.func117.trans (congrArg some (by kernel_rfl))
  f246 := Tryz.func126.trans (congrArg some (by kernel_rfl))
  f283 := Tryz.func130.trans (congrArg some (by kernel_rfl))
  f284 := Tryz.func131.trans (congrArg some (by kernel_rfl))
  f285 := Tryz.func132.trans (congrArg some (by kernel_rfl))
  f286 := Tryz.func133.trans (congrArg some (by kernel_rfl))
  f317 := Tryz.func134.trans (congrArg some (by kernel_rfl))
  f318 := Tryz.func136.trans (congrArg some (by kernel_rfl))
  f319 := Tryz.func137.trans (congrArg some (by kernel_rfl))
  f320 := Tryz.func138.trans (congrArg some (by kernel_rfl))
  f337 := Tryz.func139.trans (congrArg some (by kernel_rfl))
  f338 := Tryz.func140.trans (congrArg some (by kernel_rfl))
  t0 := Tryz.underlying0
  a0 := Tryz.isAgg0
  z0 := Tryz.sizeOf0
  v0 := Tryz.zeroValue0
  t2 := Tryz.underlying2
  a2 := Tryz.isAgg2
  z2 := Tryz.sizeOf2
  v2 := Tryz.zeroValue2
  t3 := Tryz.underlying3
  a3 := Tryz.isAgg3
  z3 := Tryz.sizeOf3
  v3 := Tryz.zeroValue3
  t4 := Tryz.underlying4
  a4 := Tryz.isAgg4
  z4 := Tryz.sizeOf4
  v4 := Tryz.zeroValue4
  t5 := Tryz.underlying5
  a5 := Tryz.isAgg5
  z5 := Tryz.sizeOf5
  v5 := Tryz.zeroValue5
  t9 := Tryz.underlying9
  a9 := Tryz.isAgg9
  z9 := Tryz.sizeOf9
  v9 := Tryz.zeroValue9
  t20 := Tryz.underlying20
  a20 := Tryz.isAgg20
  z20 := Tryz.sizeOf20
  v20 := Tryz.zeroValue20
  t37 := Tryz.underlying117
  a37 := Tryz.isAgg117
  z37 := Tryz.sizeOf117
  v37 := Tryz.zeroValue117
  t46 := Tryz.underlying177
  a46 := Tryz.isAgg177
  z46 := Tryz.sizeOf177
  v46 := Tryz.zeroValue177
  t51 := Tryz.underlying134
  a51 := Tryz.isAgg134
  z51 := Tryz.sizeOf134
  v51 := Tryz.zeroValue134
  t53 := Tryz.underlying145
  a53 := Tryz.isAgg145
  z53 := Tryz.sizeOf145
  v53 := Tryz.zeroValue145
  t171 := Tryz.underlying169
  a171 := Tryz.isAgg169
  z171 := Tryz.sizeOf169
  v171 := Tryz.zeroValue169
  t173 := Tryz.underlying172
  a173 := Tryz.isAgg172
  z173 := Tryz.sizeOf172
  v173 := Tryz.zeroValue172
  t212 := Tryz.underlying175
  a212 := Tryz.isAgg175
  z212 := Tryz.sizeOf175
  v212 := Tryz.zeroValue175
  t213 := Tryz.underlying176
  a213 := Tryz.isAgg176
  z213 := Tryz.sizeOf176
  t232 := Tryz.underlying180
  a232 := Tryz.isAgg180
  z232 := Tryz.sizeOf180
  v232 := Tryz.zeroValue180
  t233 := Tryz.underlying181
  a233 := Tryz.isAgg181
  z233 := Tryz.sizeOf181
  v233 := Tryz.zeroValue181
  g17 := by kernel_rfl
  g18 := by kernel_rfl
  g19 := by kernel_rfl }
open Go.RowKit Go.Sort Go.Lib in
theorem Tryz.strconv_Itoa_small (i : Nat) (hi : i < 100) (w : World) :
    Calls Tryz.prog 106 #[.int .i64 i] w fun e w' => e = .returned (.string ⟨(Lib.decDigits i).toArray⟩) ∧ w' = w := Any.strconv_Itoa_small Tryz.lays171 i hi w
end Go.Proofs
