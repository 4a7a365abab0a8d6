/-
  Contract of texts: a map of the call's own, from kinds to functions.
  The pieces of any node, by its kind's function; rows of two types are apart; rows of pieces read back.
-/
import Derived.Test.YtmbdbmjnibfmgaaDoorExprZA
import Derived.Maps.Own
import Derived.Maps.OwnOps
import Derived.Maps.OwnSet
import Derived.Test.YtmbdbmjnibfmgaaDoorExprZD
import Derived.Lib.AppendStr
import Derived.Laws.IdiomStrings
namespace Go.Proofs.YtmbdbmjnibfmgaaDoor.Ex
open Go.RowKit Kit Go.Maps

theorem lawI : Keyed Tryd.prog 3 := int_keyed Tryd.underlying3
theorem zeroF (w : World) : (zeroValue 57).run Tryd.prog w = .ok .nilFunc w := by kernel_rfl
/-- a function as data: its number -/
def RF : Value → Option (DataW Unit × List MemPlace)
  | .func (.func n) ⟨[]⟩ ⟨[]⟩ => some (.lit (.int .i64 n), [])
  | .nilFunc => some (.lit (.int .i64 (-1)), [])
  | _ => none
theorem RF_inv {v : Value} {n : Nat} {ps : List MemPlace} (h : RF v = some (.lit (.int .i64 (n : Int)), ps)) : v = .func (.func n) #[] #[] := by
  unfold RF at h
  split at h
  · injection h with h
    injection h with h _
    injection h with h
    injection h with _ h
    have : ∀ a : Nat, (a : Int) = (n : Int) → a = n := fun a e => by omega
    rw [this _ h]
  · injection h with h
    injection h with h _
    injection h with h
    injection h with _ h
    have h' : (-1 : Int) = (n : Int) := h
    omega
  · cases h
def kinds7 : List (Int × Nat) := [(0, 40), (1, 41), (2, 42), (3, 43), (4, 44), (5, 45), (6, 46)]
def D7 : DataW Unit := (((((((.map [] : DataW Unit).put (.int .i64 0) (.lit (.int .i64 40))).put (.int .i64 1) (.lit (.int .i64 41))).put (.int .i64 2) (.lit (.int .i64 42))).put (.int .i64 3) (.lit (.int .i64 43))).put (.int .i64 4) (.lit (.int .i64 44))).put (.int .i64 5) (.lit (.int .i64 45))).put (.int .i64 6) (.lit (.int .i64 46))
theorem D7_eq : D7 = .map [(.int .i64 0, .lit (.int .i64 40)), (.int .i64 1, .lit (.int .i64 41)), (.int .i64 2, .lit (.int .i64 42)), (.int .i64 3, .lit (.int .i64 43)), (.int .i64 4, .lit (.int .i64 44)), (.int .i64 5, .lit (.int .i64 45)), (.int .i64 6, .lit (.int .i64 46))] := rfl
theorem D7_at (k : Int) (n : Nat) (h : (k, n) ∈ kinds7) : D7.atKey (.int .i64 k) (.lit (.int .i64 (-1))) = .lit (.int .i64 (n : Int)) := by
  simp only [kinds7, List.mem_cons, List.not_mem_nil, or_false, Prod.mk.injEq] at h
  rw [D7_eq]
  unfold DataW.atKey
  rcases h with ⟨rfl, rfl⟩ | ⟨rfl, rfl⟩ | ⟨rfl, rfl⟩ | ⟨rfl, rfl⟩ | ⟨rfl, rfl⟩ | ⟨rfl, rfl⟩ | ⟨rfl, rfl⟩ <;> rfl
theorem kinds7_wf (k : Int) (n : Nat) (h : (k, n) ∈ kinds7) : (Lit.int .i64 k).wf = true := by
  simp only [kinds7, List.mem_cons, List.not_mem_nil, or_false, Prod.mk.injEq] at h
  rcases h with ⟨rfl, rfl⟩ | ⟨rfl, rfl⟩ | ⟨rfl, rfl⟩ | ⟨rfl, rfl⟩ | ⟨rfl, rfl⟩ | ⟨rfl, rfl⟩ | ⟨rfl, rfl⟩ <;> rfl

def TextsPost (w : World) (e : Ending) (w' : World) : Prop :=
  ∃ B, e = .returned (.map (some B)) ∧ Q w w' ∧ ∀ W, Q w' W → ∀ k n, (k, n) ∈ kinds7 → (Instr.lookup 51 (.map (some B)) (.int .i64 k) false).run Tryd.prog W = .ok (.func (.func n) #[] #[]) W
theorem texts_close {w w' : World} {B n : Nat} (h : w'.ownsMap Tryd.prog 3 RF B n D7) (q : Q w w') : TextsPost w (.returned (.map (some B))) w' := by
  refine ⟨B, rfl, q, fun W hW k m hk => ?_⟩
  have hlt := h.lt
  obtain ⟨es, clock, hb, F, hs, hD⟩ := h
  have h' : W.ownsMap Tryd.prog 3 RF B n D7 := ⟨es, clock, (hW.block B hlt).trans hb, F, hs, hD⟩
  obtain ⟨v, ps, hrun, hv⟩ := h'.lookup lawI Tryd.underlying51 (zeroF W) (zd := .lit (.int .i64 (-1))) (zp := []) rfl (keyOf_int_mk Tryd.underlying3 (kinds7_wf k m hk))
  rw [D7_at k m hk] at hv
  rw [hrun, RF_inv hv]

set_option maxRecDepth 100000 in
set_option maxHeartbeats 1000000 in
theorem texts_any (w : World) : Calls Tryd.prog 21 #[] w (TextsPost w) := by
  have hmm := @run_makeMap Tryd.prog
  have o0 := World.ownsMap_made w Tryd.prog 3 RF
  have q0 := (Q.refl w).alloc (.map #[] 0)
  obtain ⟨w1, e1, o1, g1⟩ := o0.update (val := .func (.func 40) #[] #[]) (d := .lit (.int .i64 40)) (ps := []) lawI Tryd.underlying51 (by unfold maxLen; omega) (keyOf_int_mk Tryd.underlying3 (a := 0) (by decide)) rfl
  obtain ⟨w2, e2, o2, g2⟩ := o1.update (val := .func (.func 41) #[] #[]) (d := .lit (.int .i64 41)) (ps := []) lawI Tryd.underlying51 (by unfold maxLen; omega) (keyOf_int_mk Tryd.underlying3 (a := 1) (by decide)) rfl
  obtain ⟨w3, e3, o3, g3⟩ := o2.update (val := .func (.func 42) #[] #[]) (d := .lit (.int .i64 42)) (ps := []) lawI Tryd.underlying51 (by unfold maxLen; omega) (keyOf_int_mk Tryd.underlying3 (a := 2) (by decide)) rfl
  obtain ⟨w4, e4, o4, g4⟩ := o3.update (val := .func (.func 43) #[] #[]) (d := .lit (.int .i64 43)) (ps := []) lawI Tryd.underlying51 (by unfold maxLen; omega) (keyOf_int_mk Tryd.underlying3 (a := 3) (by decide)) rfl
  obtain ⟨w5, e5, o5, g5⟩ := o4.update (val := .func (.func 44) #[] #[]) (d := .lit (.int .i64 44)) (ps := []) lawI Tryd.underlying51 (by unfold maxLen; omega) (keyOf_int_mk Tryd.underlying3 (a := 4) (by decide)) rfl
  obtain ⟨w6, e6, o6, g6⟩ := o5.update (val := .func (.func 45) #[] #[]) (d := .lit (.int .i64 45)) (ps := []) lawI Tryd.underlying51 (by unfold maxLen; omega) (keyOf_int_mk Tryd.underlying3 (a := 5) (by decide)) rfl
  obtain ⟨w7, e7, o7, g7⟩ := o6.update (val := .func (.func 46) #[] #[]) (d := .lit (.int .i64 46)) (ps := []) lawI Tryd.underlying51 (by unfold maxLen; omega) (keyOf_int_mk Tryd.underlying3 (a := 6) (by decide)) rfl
  have q1 : Q w w1 := q0.grown g1 (by simp) (by intro b hb; cases hb; exact Nat.le_refl _)
  have q2 : Q w w2 := q1.grown g2 q1.size (by intro b hb; cases hb; exact Nat.le_refl _)
  have q3 : Q w w3 := q2.grown g3 q2.size (by intro b hb; cases hb; exact Nat.le_refl _)
  have q4 : Q w w4 := q3.grown g4 q3.size (by intro b hb; cases hb; exact Nat.le_refl _)
  have q5 : Q w w5 := q4.grown g5 q4.size (by intro b hb; cases hb; exact Nat.le_refl _)
  have q6 : Q w w6 := q5.grown g6 q5.size (by intro b hb; cases hb; exact Nat.le_refl _)
  have q7 : Q w w7 := q6.grown g7 q6.size (by intro b hb; cases hb; exact Nat.le_refl _)
  have H7 := Lib.hid o7
  clear o0 o1 o2 o3 o4 o5 o6 o7 g1 g2 g3 g4 g5 g6 g7 q0 q1 q2 q3 q4 q5 q6
  go_enter Tryd.func21, Tryd.ntmps21
  go_wp2_with fail
  go_ret
  exact texts_close H7.out q7
end Go.Proofs.YtmbdbmjnibfmgaaDoor.Ex

namespace Go.Proofs.YtmbdbmjnibfmgaaDoor.Ex
open Go.RowKit Kit Rw
open Go.Proofs.YtmbdbmjnibfmgaaDoor.Nm

theorem node_any (A S : Option Addr) (n c m d : Nat) (l : List Tg) (st : List Ex) (a : Nat) (sk : List Ex) (f : Nat) (w : World) (hn : n = l.length) (hm : m = l.length) (hr : Rds w w.heap.size A (cellsG l)) (hS : Rds w w.heap.size S (cellsI (startsL l l.length)))
    (hl : l.length ≤ 1000) (hmay : ∀ t ∈ l, mayN t = true) (hs : runS [] l = some st) (ha : a < l.length) (hsk : runS [] (l.take a) = some sk) (hf : (l[a].1, f) ∈ kinds7) :
    Calls Tryd.prog f #[.agg #[.slice A n c, .slice S m d], .int .i64 (a : Int)] w (NodePost l a ha sk w) := by
  have hma := hmay l[a] (List.getElem_mem ha)
  simp only [kinds7, List.mem_cons, List.not_mem_nil, or_false, Prod.mk.injEq] at hf
  rcases hf with ⟨hk, rfl⟩ | ⟨hk, rfl⟩ | ⟨hk, rfl⟩ | ⟨hk, rfl⟩ | ⟨hk, rfl⟩ | ⟨hk, rfl⟩ | ⟨hk, rfl⟩
  · exact (zero_any A S n c m d a w).mono fun e w' h => node_leaf hma (.inl hk) (by unfold pcs; rw [if_pos hk]) h
  · exact (one_any A S n c m d a w).mono fun e w' h => node_leaf hma (.inr (.inl hk)) (by unfold pcs; rw [if_neg (by omega), if_pos hk]) h
  · exact (pname_any A S n c m d l a w hn hr ha).mono fun e w' h => node_leaf hma (.inr (.inr hk)) (by unfold pcs; rw [if_neg (by omega), if_neg (by omega), if_neg (by omega), if_neg (by omega), if_neg (by omega), if_neg (by omega)]) h
  · exact con_pcs A S n c m d l st a sk w hn hm hr hS hl hmay hs ha hsk hk
  · exact union_pcs A S n c m d l st a sk w hn hm hr hS hl hmay hs ha hsk hk
  · exact inter_pcs A S n c m d l st a sk w hn hm hr hS hl hmay hs ha hsk hk
  · obtain ⟨n1, f, hf, h1, h8⟩ := np_proj hma hk
    obtain ⟨sn, hsn⟩ := run_take hs (a + 1)
    obtain ⟨hnp, _⟩ := run_next ha hsk hsn
    have ha0 : 0 < a := by
      rcases Nat.eq_zero_or_pos a with e | e
      · subst e
        injection hsk with hsk
        subst hsk
        simp at hnp
        omega
      · exact e
    refine (proj_pcs A S n c m d l a f w hn hr ha ha0 hf h1 h8 (by omega)).mono fun e w' h => node_proj hsk hnp n1 ha0 fun K => ?_
    have e : pcs l l[a] a K = [sayP l[a].2.1, sayP ⟨#[126]⟩, sayP ⟨#[figD f]⟩, sayP ⟨#[40]⟩, atP (a - 1), sayP ⟨#[41]⟩] := by
      unfold pcs
      rw [if_neg (by omega), if_neg (by omega), if_neg (by omega), if_neg (by omega), if_neg (by omega), if_pos hk, hf]
      rfl
    rw [e]
    exact h

/-- rows of two types lie apart -/
theorem rows_apart {w : World} {b1 b2 s1 s2 n1 n2 : Nat} {e1 e2 : TypeId} {v1 v2 : Value} {x1 x2 : List Value} (h1 : w.ownsRow b1 e1 s1 v1 n1 x1) (h2 : w.ownsRow b2 e2 s2 v2 n2 x2) (he : e1 ≠ e2) : v1.ownBlock = none ∨ v1.ownBlock ≠ v2.ownBlock := by
  obtain ⟨_, ⟨rfl, _⟩ | ⟨g, c, cur, rfl, _, hh, _⟩⟩ := h1
  · exact .inl rfl
  · right
    obtain ⟨_, ⟨rfl, _⟩ | ⟨g', c', cur', rfl, _, hh', _⟩⟩ := h2
    · intro e; cases e
    · intro e
      have e : some g = some g' := e
      injection e with e
      subst e
      rw [hh] at hh'
      injection hh' with hh'
      injection hh' with _ h
      exact he h

def pcOf (w : World) (g j : Nat) : Pc := ((match w.cell? ⟨g, j * 2, none⟩ with | some (.string s) => s | _ => ⟨#[]⟩), (match w.cell? ⟨g, j * 2 + 1, none⟩ with | some (.int _ k) => k | _ => 0))
/-- the pieces that a slice has in memory -/
def pcsOf (w : World) : Value → List Pc
  | .slice (some a) n _ => (List.range n).map fun j => pcOf w a.block j
  | _ => []
theorem pcsOf_row {w : World} {base : Nat} {v : Value} {ps : List Pc} (h : w.ownsRow base 54 2 v ps.length (cellsPc ps)) : pcsOf w v = ps := by
  have h' := h
  obtain ⟨_, ⟨rfl, h0⟩ | ⟨g, c, cur, rfl, _⟩⟩ := h
  · rw [List.length_eq_zero_iff.1 h0]; rfl
  · unfold pcsOf
    apply List.ext_getElem
    · simp
    · intro j h1 h2
      simp only [List.getElem_map, List.getElem_range]
      unfold pcOf
      rw [h'.cellAt (j * 2) (by omega), h'.cellAt (j * 2 + 1) (by omega), (cellsPc_at ps j h2).1, (cellsPc_at ps j h2).2]
/-- a row without its last piece -/
theorem pcs_pop {w : World} {base g cap : Nat} {ps : List Pc} {p : Pc} (h : w.ownsRow base 54 2 (.slice (some ⟨g, 0, none⟩) (ps.length + 1) cap) (ps.length + 1) (cellsPc (ps ++ [p]))) : w.ownsRow base 54 2 (.slice (some ⟨g, 0, none⟩) ps.length cap) ps.length (cellsPc ps) := by
  obtain ⟨hl, ⟨e, h0⟩ | ⟨g', cap', cur, e, hg, hh, hc, hm, hcs, ht⟩⟩ := h
  · simp at h0
  · injection e with e1 e2 e3
    injection e1 with e1
    injection e1 with e1
    subst e1 e3
    refine ⟨cellsPc_len ps, .inr ⟨g, cap, cur, rfl, hg, hh, by omega, hm, hcs, ?_⟩⟩
    have e1 : (cur.toList.take ((ps.length + 1) * 2)).take (ps.length * 2) = cur.toList.take (ps.length * 2) := by rw [List.take_take, Nat.min_eq_left (by omega)]
    rw [← e1, ht, cellsPc_app, List.take_append_of_le_length (by rw [cellsPc_len]; exact Nat.le_refl _), List.take_of_length_le (by rw [cellsPc_len]; exact Nat.le_refl _)]
theorem pcs_last {w : World} {base g cap : Nat} {ps : List Pc} {p : Pc} (h : w.ownsRow base 54 2 (.slice (some ⟨g, 0, none⟩) (ps.length + 1) cap) (ps.length + 1) (cellsPc (ps ++ [p]))) :
    w.cell? ⟨g, ps.length * 2, none⟩ = some (.string p.1) ∧ w.cell? ⟨g, ps.length * 2 + 1, none⟩ = some (.int .i64 p.2) := by
  have hk : ps.length < (ps ++ [p]).length := by simp
  have e := cellsPc_at (ps ++ [p]) ps.length hk
  have ee : (ps ++ [p])[ps.length] = p := by simp
  rw [ee] at e
  rw [h.cellAt (ps.length * 2) (by omega), h.cellAt (ps.length * 2 + 1) (by omega)]
  exact e
def cellsB (l : List UInt8) : List Value := l.map fun b => Value.int .u8 b.toNat
theorem cellsB_app (l : List UInt8) (s : ByteArray) : cellsB (l ++ s.data.toList) = cellsB l ++ Lib.strCells s := by simp [cellsB, Lib.strCells]
theorem byteInfo : (Tryd.prog.info? 5).map (fun i => (i.zero, i.size, i.bytes)) = some (some (.int .u8 0), 1, 1) := by kernel_rfl
end Go.Proofs.YtmbdbmjnibfmgaaDoor.Ex
