/-
  Cells as arguments, opened; what is behind a mark and taken back at once, or kept.
-/
import Derived.Test.YtodmompfnlcjpaaTrailS
import Derived.Test.YtodmompfnlcjpaaTrailH
import Derived.Test.YtodmompfnlcjpaaTrailI
import Derived.Test.YtodmompfnlcjpaaTrailM
import Derived.Test.YtodmompfnlcjpaaTrailG
import Derived.Deep.SlicePairs
import Derived.Deep.Matrix
import Derived.Lib.SmallJoins
import Derived.SizedLaws
namespace Go.Proofs.Ytodmompfnlcjpaa.Tr
open Go.ChangeShapes Go.WideShapes Go.RowKit Kit Go.Deep Go.Joins

theorem bytes_int : Try.prog.bytesOf 3 = 8 := by kernel_rfl
theorem bytes_note : Try.prog.bytesOf 64 = 16 := by kernel_rfl
theorem cells_int : Try.prog.cellsOf 3 = 1 := by kernel_rfl
section
variable {H : Type} {enc : TypeId × Value → H} {W : World} {base : Nat}
theorem open_ints_cells {fuel : Nat} {v : Value} {x : DataW H × List MemPlace} (h : DataW.trod enc Try.prog W 0 (fun _ => true) true fuel 22 [v] = some x) (hz : ∀ n ∈ x.1.weights Try.prog 22, n ≤ reachBytes) :
    ∃ A n c l, v = .slice A n c ∧ n = l.length ∧ n ≤ c ∧ Rds W W.heap.size A (cellsI l) ∧ l.length ≤ 1152921504606846976 := by
  rcases open_ints Try.underlying22 Try.underlying3 cells_int h with ⟨hcs, hx⟩ | ⟨a, len, cap, zs, hcs, _, hl, _, hlen, hx, hcell, _⟩
  · obtain rfl : v = .slice none 0 0 := by simpa using hcs
    exact ⟨none, 0, 0, [], rfl, rfl, Nat.le_refl _, Rds.nil _ _ _, by simp⟩
  · obtain rfl : v = .slice (some a) len cap := by simpa using hcs
    simp only [if_true] at hlen
    have hw : (((lits .i64 (zs.take len) : List (DataW H))).length + ((lits .i64 (zs.drop len) : List (DataW H))).length) * Try.prog.bytesOf 3 ≤ reachBytes := by
      refine hz _ ?_
      rw [hx]
      simp [DataW.weights, Try.underlying22]
    rw [bytes_int] at hw
    have hll : (zs.take len).length = len := by rw [List.length_take, hlen]; omega
    refine ⟨_, _, _, zs.take len, rfl, hll.symm, hl, fun h0 => ⟨a, rfl, ?_, fun i y hy => ?_⟩, ?_⟩
    · have := hcell 0 (by rw [cellsI_len] at h0; omega)
      have := World.block_lt_of_cell? W _ this
      rwa [add_block] at this
    · unfold cellsI at hy
      rw [List.getElem?_map, Option.map_eq_some_iff] at hy
      obtain ⟨z, hz', rfl⟩ := hy
      have hi : i < len := by have := (List.getElem?_eq_some_iff.1 hz').1; omega
      rw [List.getElem?_take, if_pos hi] at hz'
      rw [hcell i (by omega)]
      simp [hz']
    · simp [lits, reachBytes] at hw
      rw [hll]; omega
theorem open_notes_cells {fuel : Nat} {v : Value} {x : DataW H × List MemPlace} (h : DataW.trod enc Try.prog W 0 (fun _ => true) true fuel 23 [v] = some x) (hz : ∀ n ∈ x.1.weights Try.prog 23, n ≤ reachBytes) :
    ∃ A n c l, v = .slice A n c ∧ n = l.length ∧ n ≤ c ∧ Rds W W.heap.size A (cellsP l) ∧ l.length ≤ 1152921504606846976 := by
  rcases open_slice_pairs Try.underlying23 Try.underlying64 (by kernel_rfl) rfl rfl (by kernel_rfl) (by kernel_rfl) h with ⟨hcs, _⟩ | ⟨ad, len, cap, m, n, V0, V1, D0, D1, P0, P1, hcs, _, hl, hm, hmm, hx, hi⟩
  · obtain rfl : v = .slice none 0 0 := by simpa using hcs
    exact ⟨none, 0, 0, [], rfl, rfl, Nat.le_refl _, Rds.nil _ _ _, by simp⟩
  · obtain rfl : v = .slice (some ad) len cap := by simpa using hcs
    have hw : (((List.range len).map fun i => (.agg [D0 i, D1 i] : DataW H)).length + ((List.range (m - len)).map fun j => (.agg [D0 (len + j), D1 (len + j)] : DataW H)).length) * Try.prog.bytesOf 64 ≤ reachBytes := by
      refine hz _ ?_
      rw [hx]
      simp [DataW.weights, Try.underlying23]
    rw [bytes_note] at hw
    have hlm : len ≤ m := by rw [hmm]; split <;> omega
    have each : ∀ i, i < len → ∃ s : Note, W.cell? (ad.add (i * 2)) = some (.int .i64 s.1) ∧ W.cell? (ad.add (i * 2 + 1)) = some (.int .i64 s.2) := fun i hil => by
      obtain ⟨c0, c1, t0, t1⟩ := hi i (by omega)
      obtain ⟨s0, e0, _, _⟩ := DataW.trod_int Try.underlying3 t0
      obtain ⟨s1, e1, _, _⟩ := DataW.trod_int Try.underlying3 t1
      simp only [List.cons.injEq, and_true] at e0 e1
      exact ⟨(s0, s1), by rw [c0, e0], by rw [c1, e1]⟩
    obtain ⟨q, hq⟩ := choose_lt each
    have hll : ((List.range len).map q).length = len := by simp
    refine ⟨_, _, _, (List.range len).map q, rfl, hll.symm, hl, fun h0 => ⟨ad, rfl, ?_, fun j u hj => ?_⟩, ?_⟩
    · rw [cellsP_len, hll] at h0
      have := (hq 0 (by omega)).1
      have := World.block_lt_of_cell? W _ this
      rwa [add_block] at this
    · rcases Nat.mod_two_eq_zero_or_one j with hp | hp
      · obtain ⟨i, rfl⟩ : ∃ i, j = i * 2 := ⟨j / 2, by omega⟩
        rw [cellsP_even, Option.map_eq_some_iff] at hj
        obtain ⟨s, hs, rfl⟩ := hj
        have hil : i < len := by have := (List.getElem?_eq_some_iff.1 hs).1; rw [hll] at this; exact this
        have e : s = q i := by rw [List.getElem?_map, List.getElem?_range hil] at hs; simpa using hs.symm
        rw [e]
        exact (hq i hil).1
      · obtain ⟨i, rfl⟩ : ∃ i, j = i * 2 + 1 := ⟨j / 2, by omega⟩
        rw [cellsP_odd, Option.map_eq_some_iff] at hj
        obtain ⟨s, hs, rfl⟩ := hj
        have hil : i < len := by have := (List.getElem?_eq_some_iff.1 hs).1; rw [hll] at this; exact this
        have e : s = q i := by rw [List.getElem?_map, List.getElem?_range hil] at hs; simpa using hs.symm
        rw [e]
        exact (hq i hil).2
    · simp [reachBytes] at hw
      rw [hll]; omega
set_option maxRecDepth 100000 in
theorem open_cells3 {f0 f1 f2 : Nat} {v0 v1 v2 : Value} {y0 y1 y2 : DataW H × List MemPlace} (t0 : DataW.trod enc Try.prog W 0 (fun _ => true) true f0 22 [v0] = some y0) (t1 : DataW.trod enc Try.prog W 0 (fun _ => true) true f1 23 [v1] = some y1) (t2 : DataW.trod enc Try.prog W 0 (fun _ => true) true f2 22 [v2] = some y2)
    (hz : ∀ n ∈ DataW.weights Try.prog 25 (.agg [y0.1, y1.1, y2.1]), n ≤ reachBytes) :
    ∃ c A n1 k1 D n2 k2 E n3 k3, v0 = .slice A n1 k1 ∧ v1 = .slice D n2 k2 ∧ v2 = .slice E n3 k3 ∧ n1 = c.V.length ∧ n2 = c.N.length ∧ n3 = c.M.length ∧ Rd W c A k1 D k2 E k3 ∧ Few c 1152921504606846976 := by
  have hw : DataW.weights Try.prog 25 (.agg [y0.1, y1.1, y2.1]) = y0.1.weights Try.prog 22 ++ (y1.1.weights Try.prog 23 ++ (y2.1.weights Try.prog 22 ++ [])) := by
    simp [DataW.weights, Try.underlying25, DataW.weightsEach]
  rw [hw] at hz
  obtain ⟨A, n1, k1, V, e0, h1, g1, r1, l1⟩ := open_ints_cells t0 (fun n hn => hz n (by simp [hn]))
  obtain ⟨D, n2, k2, N, e1, h2, g2, r2, l2⟩ := open_notes_cells t1 (fun n hn => hz n (by simp [hn]))
  obtain ⟨E, n3, k3, M, e2, h3, g3, r3, l3⟩ := open_ints_cells t2 (fun n hn => hz n (by simp [hn]))
  exact ⟨⟨V, N, M⟩, A, n1, k1, D, n2, k2, E, n3, k3, e0, e1, e2, h1, h2, h3, ⟨r1, r2, r3, by show V.length ≤ _; omega, by show N.length ≤ _; omega, by show M.length ≤ _; omega⟩, l1, l2, l3⟩
set_option maxRecDepth 100000 in
theorem open_cells {v : Value} {d : DataW H} {p : List MemPlace} (hv : Value.okWide Try.prog W .any base 25 v) (h : DataW.Trod enc Try.prog W 0 (fun _ => true) true 25 v d p) (hz : ∀ n ∈ d.weights Try.prog 25, n ≤ reachBytes) :
    ∃ c A n1 k1 D n2 k2 E n3 k3, v = .agg #[.slice A n1 k1, .slice D n2 k2, .slice E n3 k3] ∧ n1 = c.V.length ∧ n2 = c.N.length ∧ n3 = c.M.length ∧ Rd W c A k1 D k2 E k3 ∧ Few c 1152921504606846976 := by
  obtain ⟨v0, v1, v2, y0, y1, y2, n, rfl, rfl, _, t0, t1, t2⟩ := open_agg3 Try.underlying25 (by kernel_rfl) (by kernel_rfl) hv h
  obtain ⟨c, A, n1, k1, D, n2, k2, E, n3, k3, rfl, rfl, rfl, r⟩ := open_cells3 t0 t1 t2 hz
  exact ⟨c, A, n1, k1, D, n2, k2, E, n3, k3, rfl, r⟩
end

theorem Rds.own {w : World} {B g : Nat} {l : List Int} (h : Rds w B (some ⟨g, 0, none⟩) (cellsI l)) {k : Nat} {x : Int} (hk : l[k]? = some x) : w.cell? ⟨g, k, none⟩ = some (.int .i64 x) := by
  have hl := (List.getElem?_eq_some_iff.1 hk).1
  obtain ⟨ad, e, _, hc⟩ := h (by rw [cellsI_len]; omega)
  injection e with e
  subst e
  have := hc k (.int .i64 x) (by unfold cellsI; rw [List.getElem?_map, hk]; rfl)
  rwa [add_zero_head] at this

/-! ### a mark, and Back or Keep at once -/
theorem back_mark (c : Cells) : backC (markC c) c.N.length c.V = c := by
  unfold backC markC
  simp
theorem keep_mark (c : Cells) : keepC (markC c) = c := by
  unfold keepC markC
  simp
theorem few_mark {c : Cells} {m k : Nat} (h : Few c m) (hm : m + 1 ≤ k) : Few (markC c) k := ⟨by have := h.1; show c.V.length ≤ _; omega, by have := h.2.1; show c.N.length ≤ _; omega, by have := h.2.2; simp [markC]; omega⟩
theorem few_grow {c : Cells} {m k : Nat} (x : Int) (h : Few c m) (hm : m + 1 ≤ k) : Few (growC c x) k := ⟨by have := h.1; simp [growC]; omega, by have := h.2.1; simp [growC]; omega, by have := h.2.2; show c.M.length ≤ _; omega⟩
theorem few_set {c : Cells} {m k : Nat} (a : Nat) (x : Int) (h : Few c m) (hm : m + 1 ≤ k) : Few (setC c a x) k := ⟨by have := h.1; simp [setC]; omega, by have := h.2.1; simp [setC]; omega, by have := h.2.2; show c.M.length ≤ _; omega⟩
theorem few_more {c : Cells} {m k : Nat} (h : Few c m) (hm : m ≤ k) : Few c k := ⟨Nat.le_trans h.1 hm, Nat.le_trans h.2.1 hm, Nat.le_trans h.2.2 hm⟩
theorem few_500 {c : Cells} (h : fewB c = true) : Few c 500 := by
  have := few_of h
  exact ⟨by omega, by omega, by omega⟩
theorem back_marked (c : Cells) (A D E : Option Addr) (n1 k1 n2 k2 n3 k3 : Nat) (w : World) (h1 : n1 = (markC c).V.length) (h2 : n2 = (markC c).N.length) (h3 : n3 = (markC c).M.length) (h : Rd w (markC c) A k1 D k2 E k3) (hf : Few (markC c) 1000000) :
    Calls Try.prog 20 #[.agg #[.slice A n1 k1, .slice D n2 k2, .slice E n3 k3]] w (OutPostE c 0 w) := by
  have h0 := back_some (markC c) c.N.length c.V A D E n1 k1 n2 k2 n3 k3 w h1 h2 h3 h hf (by simp [markC]) (by simp [markC]) (by simp [markC, backR])
  rwa [back_mark] at h0
theorem keep_marked (c : Cells) (A D E : Option Addr) (n1 k1 n2 k2 n3 k3 : Nat) (w : World) (h1 : n1 = (markC c).V.length) (h2 : n2 = (markC c).N.length) (h3 : n3 = (markC c).M.length) (h : Rd w (markC c) A k1 D k2 E k3) (hf : Few (markC c) 1000000) :
    Calls Try.prog 38 #[.agg #[.slice A n1 k1, .slice D n2 k2, .slice E n3 k3]] w (OutPostE c 0 w) := by
  have h0 := keep_some (markC c) A D E n1 k1 n2 k2 n3 k3 w h1 h2 h3 h hf (by simp [markC])
  rwa [keep_mark] at h0
theorem back_setC (c : Cells) (a : Nat) (x : Int) : backC (setC (markC c) a x) c.N.length c.V = c := by
  unfold backC setC markC
  simp
theorem back_set (c : Cells) (a : Nat) (x : Int) (ha : a < c.V.length) (A D E : Option Addr) (n1 k1 n2 k2 n3 k3 : Nat) (w : World) (h1 : n1 = (setC (markC c) a x).V.length) (h2 : n2 = (setC (markC c) a x).N.length) (h3 : n3 = (setC (markC c) a x).M.length) (h : Rd w (setC (markC c) a x) A k1 D k2 E k3) (hf : Few (setC (markC c) a x) 1000000) :
    Calls Try.prog 20 #[.agg #[.slice A n1 k1, .slice D n2 k2, .slice E n3 k3]] w (OutPostE c 0 w) := by
  have hb : back1 ((a : Int), c.V[a]) (c.V.set a x) = some c.V := by rw [back1_put a _ _ (by rw [List.length_set]; exact ha)]; simp
  have h0 := back_some (setC (markC c) a x) c.N.length c.V A D E n1 k1 n2 k2 n3 k3 w h1 h2 h3 h hf (by simp [setC, markC]) (by simp [setC, markC]) (by simp [setC, markC, backR, ha, hb])
  rwa [back_setC c a x] at h0
end Go.Proofs.Ytodmompfnlcjpaa.Tr
