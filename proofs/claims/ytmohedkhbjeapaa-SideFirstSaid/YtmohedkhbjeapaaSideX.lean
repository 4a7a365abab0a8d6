/-
  A part of nodes: plain (its nodes, its sides, what may not be in it), and in memory (a slice of nodes, a slice of bytes).
-/
import Derived.Test.YtmohedkhbjeapaaSideA
import Derived.Test.YtmohedkhbjeapaaKitMore
import Derived.Test.YtmohedkhbjeapaaRef8Open
namespace Go.Proofs.Ytmohedkhbjeapaa.Ex
open Go.RowKit Kit Rw
open Go.Proofs.Ytmohedkhbjeapaa.Sg (Sig Row)

theorem part_at {l : List Tg} {x : Ex} (h : runS [] l = some [x]) {k : Nat} (hk : k < l.length) :
    ∃ c, treeAt l k = some c ∧ (l.take (k + 1)).drop (startOf l k) = c.nodes ∧ c.wf ∧ c.size ≤ k + 1 ∧ startOf l k = k + 1 - c.size := by
  obtain ⟨sk, hsk⟩ := run_take h k
  obtain ⟨ht, _⟩ := tree_at h hk hsk
  obtain ⟨sn, hsn⟩ := run_take h (k + 1)
  have ht2 := ht
  unfold treeAt at ht2
  rw [hsn] at ht2
  cases sn with
  | nil => cases ht2
  | cons c r =>
    have hc : treeAt l k = some c := by unfold treeAt; rw [hsn]; rfl
    obtain ⟨h1, h2, _, h4⟩ := run_pop hsn
    have hl : (l.take (k + 1)).length = k + 1 := by rw [List.length_take]; omega
    have hs := start_of hsn
    rw [hl] at h2 h4
    exact ⟨c, hc, by rw [hs]; exact h4, h1, h2, hs⟩
theorem side0_of {s : UInt8} (h : IsSide s) : side0 s = s := by
  rcases h with rfl | rfl | rfl <;> rfl
theorem part_ok (L : List Sig) {l p : List Tg} {F G : List UInt8} {k a : Nat} (hF : F.length = l.length) (hk : k < l.length) (hp : (l.take (k + 1)).drop a = p) (hG : (F.take (k + 1)).drop a = G)
    (hb : ∀ (j : Nat) (hj : j ≤ k), badN L (l[j]'(by omega)) (F[j]'(by omega)) = 0) : (checkF L p G 0).2 = 0 := by
  subst hp hG
  refine (checkF_ok L _ _ 0 (by simp; omega)).2 fun j hj hj' => ?_
  rw [List.getElem_drop, List.getElem_take, List.getElem_drop, List.getElem_take]
  exact hb _ (by simp at hj; omega)
/-- all of a part that laws ask for -/
theorem part_all (L : List Sig) (s : UInt8) {l : List Tg} {x : Ex} (h : runS [] l = some [x]) {k : Nat} (hk : k < l.length) :
    ∃ (c : Ex) (t : UInt8), (x.sides L (side0 s))[k]? = some t ∧ (l.take (k + 1)).drop (startOf l k) = c.nodes ∧ ((x.sides L (side0 s)).take (k + 1)).drop (startOf l k) = c.sides L t ∧ side0 t = t ∧ runS [] c.nodes = some [c] ∧ startOf l k < k + 1 ∧ c.nodes.length = k + 1 - startOf l k ∧ (c.sides L t).length = c.nodes.length := by
  obtain ⟨c, h1, h2, h3, h4, h5⟩ := part_at h hk
  obtain ⟨t, g1, g2, _, _⟩ := sides_part L h (side0 s) hk h1
  have hp := size_pos c
  have hi : IsSide t := sides_is L (side0 s) x (side0_is s) t (List.mem_of_getElem? g1)
  have hcl : c.nodes.length = c.size := rfl
  exact ⟨c, t, g1, h2, g2, side0_of hi, run_tree c [] h3, by omega, by omega, by rw [sides_len]; rfl⟩
theorem nodeInfo8 : (Try.prog.info? 38).map (fun i => (i.zero, i.size, i.bytes)) = some (some (.agg #[.int .i64 0, .string ⟨#[]⟩, .int .i64 0]), 3, 32) := by kernel_rfl
theorem cells_drop8 (l : List Tg) (k : Nat) (h : k ≤ l.length) : cellsG (l.drop k) = (cellsG l).drop (k * 3) := by
  have e : cellsG l = cellsG (l.take k) ++ cellsG (l.drop k) := by rw [← cellsG_append, List.take_append_drop]
  have hl : (cellsG (l.take k)).length = k * 3 := by rw [cellsG_len, List.length_take]; omega
  rw [e, List.drop_append_of_le_length (by omega), ← hl, List.drop_length, List.nil_append]
theorem cells_take8 (l : List Tg) (k : Nat) (h : k ≤ l.length) : cellsG (l.take k) = (cellsG l).take (k * 3) := by
  have e : cellsG l = cellsG (l.take k) ++ cellsG (l.drop k) := by rw [← cellsG_append, List.take_append_drop]
  have hl : (cellsG (l.take k)).length = k * 3 := by rw [cellsG_len, List.length_take]; omega
  rw [e, List.take_append_of_le_length (by omega), ← hl, List.take_length]
theorem src_sub8 {w : World} {B : Nat} {ad : Addr} {l : List Tg} (h : Rds w B (some ad) (cellsG l)) {a b : Nat} (hab : a ≤ b) (hb : b ≤ l.length) : Src w (some (ad.add (a * 3))) (cellsG ((l.take b).drop a)) := fun h0 => by
  obtain ⟨ad', e, _, hc⟩ := h (by
    rw [cellsG_len] at h0 ⊢
    rw [List.length_drop, List.length_take] at h0
    omega)
  injection e with e
  subst e
  refine ⟨_, rfl, fun j v hv => ?_⟩
  rw [Go.Deep.add_add]
  refine hc _ _ ?_
  rw [cells_drop8 _ _ (by rw [List.length_take]; omega), cells_take8 _ _ hb, List.getElem?_drop, List.getElem?_take] at hv
  split at hv
  · exact hv
  · cases hv
theorem slice_nodes8 (A : Option Addr) (n c a b : Nat) (hab : a < b) (hb : b ≤ c) (u : World) : (Instr.slice 23 (.slice A n c) (some (.int .i64 (a : Int))) (some (.int .i64 (b : Int))) none).run Try.prog u = .ok (.slice (A.map fun ad => ad.add (a * 3)) (b - a) (c - a)) u := by
  obtain ⟨i0, hi, hz0, hz1, hz2⟩ := info_parts nodeInfo8
  have h2 : a ≤ b := by omega
  simp [Instr.slice, run_underlying Try.underlying23, Instr.sliceBounds, Instr.sliceBound, asIntOf, sizeOf, typeInfo, hi, hz1, hb, h2, Addr.add]
  intro h
  omega
theorem slice_bytes8 (ad : Addr) (n c a b : Nat) (hab : a < b) (hb : b ≤ c) (u : World) : (Instr.slice 31 (.slice (some ad) n c) (some (.int .i64 (a : Int))) (some (.int .i64 (b : Int))) none).run Try.prog u = .ok (.slice (some (ad.add a)) (b - a) (c - a)) u := by
  obtain ⟨i0, hi, hz0, hz1, hz2⟩ := info_parts byteInfo8
  have h2 : a ≤ b := by omega
  simp [Instr.slice, run_underlying Try.underlying31, Instr.sliceBounds, Instr.sliceBound, asIntOf, sizeOf, typeInfo, hi, hz1, hb, h2, Addr.add]
  intro h
  omega
def SideOfC (F : List UInt8) (w : World) (e : Ending) (w' : World) : Prop := ∃ ad c, e = .returned (.slice (some ad) F.length c) ∧ F.length ≤ c ∧ Rds w' w'.heap.size (some ad) (cells8 F) ∧ Q w w'
theorem sideOf_cap (A B : Option Addr) (m c n d : Nat) (L : List Sig) (l : List Tg) (x : Ex) (s : UInt8) (w : World) (hm : m = L.length) (hn : n = l.length) (hL : Row w w.heap.size A L) (hr : Rds w w.heap.size B (cellsG l)) (hl8 : L.length ≤ 1000) (hl : l.length ≤ 600) (hmay : ∀ t ∈ l, mayN t = true) (hs : runS [] l = some [x]) :
    Calls Try.prog 14 #[.slice A m c, .slice B n d, .int .u8 (s.toNat : Int)] w (SideOfC (x.sides L (side0 s)) w) := by
  refine (sideOf_full A B m c n d L l x s w hm hn hL hr hl8 hl hmay hs).mono ?_
  rintro e w1 ⟨g, rfl, hO, _, q1⟩
  exact ⟨_, _, rfl, Nat.le_refl _, hO.rds, q1⟩
theorem rds_sub8 {w : World} {B : Nat} {ad : Addr} {F : List UInt8} (h : Rds w B (some ad) (cells8 F)) (a b : Nat) : Rds w B (some (ad.add a)) (cells8 ((F.take b).drop a)) := fun h0 => by
  obtain ⟨ad', e, hb, hc⟩ := h (by
    rw [cells8_len] at h0 ⊢
    rw [List.length_drop, List.length_take] at h0
    omega)
  injection e with e
  subst e
  refine ⟨_, rfl, by rw [add_block]; exact hb, fun j v hv => ?_⟩
  rw [Go.Deep.add_add]
  refine hc _ _ ?_
  unfold cells8 at hv ⊢
  rw [List.getElem?_map] at hv ⊢
  rw [List.getElem?_drop, List.getElem?_take] at hv
  split at hv
  · exact hv
  · cases hv
theorem own_slice8 {w : World} {base : Nat} {e : TypeId} {size : Nat} {v : Value} {n : Nat} {xs : List Value} (h : w.ownsRow base e size v n xs) (hn : 0 < n) : ∃ g cap, v = .slice (some ⟨g, 0, none⟩) n cap := by
  obtain ⟨_, ⟨_, h0⟩ | ⟨g, cap, cur, e, _⟩⟩ := h
  · omega
  · exact ⟨g, cap, e⟩
theorem byte_here {w : World} {B : Nat} {ad : Addr} {F : List UInt8} {b : UInt8} {k : Nat} (h : Rds w B (some ad) (cells8 F)) (hk : F[k]? = some b) : w.cell? (ad.add k) = some (.int .u8 (b.toNat : Int)) := by
  have hl := (List.getElem?_eq_some_iff.1 hk).1
  obtain ⟨ad', e, _, hc⟩ := h (by rw [cells8_len]; omega)
  injection e with e
  subst e
  exact hc k _ (cells8_at hk)
end Go.Proofs.Ytmohedkhbjeapaa.Ex
