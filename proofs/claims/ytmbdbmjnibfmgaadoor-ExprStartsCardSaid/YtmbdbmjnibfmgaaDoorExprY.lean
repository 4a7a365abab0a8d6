/-
  A slice of nodes cut, and what it reads.
-/
import Derived.Test.YtmbdbmjnibfmgaaDoorExprI
namespace Go.Proofs.YtmbdbmjnibfmgaaDoor.Ex
open Go.RowKit Kit Rw
open Go.Proofs.YtmbdbmjnibfmgaaDoor.Nm

theorem cellsG_drop (l : List Tg) (k : Nat) (h : k ≤ l.length) : cellsG (l.drop k) = (cellsG l).drop (k * 3) := by
  have e : cellsG l = cellsG (l.take k) ++ cellsG (l.drop k) := by rw [← cellsG_append, List.take_append_drop]
  have hl : (cellsG (l.take k)).length = k * 3 := by rw [cellsG_len, List.length_take]; omega
  rw [e, List.drop_append_of_le_length (by omega), ← hl, List.drop_length, List.nil_append]
theorem cellsG_take (l : List Tg) (k : Nat) (h : k ≤ l.length) : cellsG (l.take k) = (cellsG l).take (k * 3) := by
  have e : cellsG l = cellsG (l.take k) ++ cellsG (l.drop k) := by rw [← cellsG_append, List.take_append_drop]
  have hl : (cellsG (l.take k)).length = k * 3 := by rw [cellsG_len, List.length_take]; omega
  rw [e, List.take_append_of_le_length (by omega), ← hl, List.take_length]
theorem src_sub {w : World} {B : Nat} {ad : Addr} {l : List Tg} (h : Rds w B (some ad) (cellsG l)) {a b : Nat} (hab : a ≤ b) (hb : b ≤ l.length) : Src w (some (ad.add (a * 3))) (cellsG ((l.take b).drop a)) := fun h0 => by
  obtain ⟨ad', e, _, hc⟩ := h (by
    rw [cellsG_len] at h0 ⊢
    rw [List.length_drop, List.length_take] at h0
    omega)
  injection e with e
  subst e
  refine ⟨_, rfl, fun j v hv => ?_⟩
  rw [Go.Deep.add_add]
  refine hc _ _ ?_
  rw [cellsG_drop _ _ (by rw [List.length_take]; omega), cellsG_take _ _ hb, List.getElem?_drop, List.getElem?_take] at hv
  split at hv
  · exact hv
  · cases hv
theorem slice_nodes (A : Option Addr) (n c a b : Nat) (hab : a < b) (hb : b ≤ c) (u : World) : (Instr.slice 22 (.slice A n c) (some (.int .i64 (a : Int))) (some (.int .i64 (b : Int))) none).run Tryd.prog u = .ok (.slice (A.map fun ad => ad.add (a * 3)) (b - a) (c - a)) u := by
  obtain ⟨i0, hi, hz0, hz1, hz2⟩ := info_parts nodeInfo
  have h2 : a ≤ b := by omega
  simp [Instr.slice, run_underlying Tryd.underlying22, Instr.sliceBounds, Instr.sliceBound, asIntOf, sizeOf, typeInfo, hi, hz1, hb, h2, Addr.add]
  intro h
  omega
end Go.Proofs.YtmbdbmjnibfmgaaDoor.Ex
