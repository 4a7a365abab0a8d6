/-
  Contract of allFirst: the first one of each, in a row.
-/
import Derived.Test.YtodmompfnlcjpaaUfD
namespace Go.Proofs.Ytodmompfnlcjpaa.Uf
open Go.RowKit Kit Tr

theorem own_made (w : World) (n : Nat) (t : TypeId) : OwnC (w.alloc (.cells (madeCells #[.int .i64 0] n) t)) w.heap.size (cellsI (List.replicate n 0)) := by
  refine ⟨by simp, fun i x hx => ?_⟩
  have hi : i < n := by have := (List.getElem?_eq_some_iff.1 hx).1; simpa [cellsI] using this
  have e : x = .int .i64 0 := by rw [cellsI, List.map_replicate, List.getElem?_replicate, if_pos hi] at hx; simpa using hx.symm
  subst e
  refine ⟨?_, World.frozen?_alloc_at _ _ _ _ rfl⟩
  rw [cell_of_row _ _ _ _ _ _ (heap_alloc_new w _)]
  simp [madeCells, hi, Nat.mod_one]
theorem make_ints (n : Nat) (hn : n ≤ 100000000) (u : World) : (Instr.makeSlice 22 (.int .i64 (n : Int)) (.int .i64 (n : Int))).run Try.prog u = .ok (.slice (some ⟨u.heap.size, 0, none⟩) n n) (u.alloc (.cells (madeCells #[.int .i64 0] n) 3)) := by
  obtain ⟨i0, hi, hz0, hz1, hz2⟩ := info_parts intInfo
  have h := run_make (P := Try.prog) u 22 3 i0 _ Try.underlying22 hi hz0 .i64 .i64 (n : Int) (n : Int) (by omega) (by omega) (by rw [hz2]; omega) (by omega)
  rw [hz1, Nat.mul_one] at h
  exact h

/-- ways that are made shorter: those ahead of n are one step long -/
structure Good (R V F : List Int) (n : Nat) : Prop where
  len : F.length = V.length
  cl : Cl R F
  same : ∀ m, m < V.length → fst F m = fst V m
  done : ∀ m, m < n → F[m]? = some (fst V m : Int)
theorem Good.start {R V : List Int} (h : Cl R V) : Good R V V 0 := ⟨rfl, h, fun _ _ => rfl, fun _ hm => absurd hm (by omega)⟩
theorem Good.short {R V F : List Int} {n x : Nat} (h : Good R V F n) (hx : x < V.length) (hne : par F x ≠ x) : Good R V (F.set x (par F (par F x) : Int)) n := by
  have hx' : x < F.length := by rw [h.len]; exact hx
  obtain ⟨p1, _, p3⟩ := h.cl.parent hx'
  obtain ⟨z1, _, z3⟩ := h.cl.parent p1
  have hl : lessB R (par F (par F x)) x = true := by
    have a := p3.resolve_left hne
    rcases z3 with e | e
    · rw [e]; exact a
    · exact less_trans e a
  obtain ⟨c2, f2⟩ := h.cl.short hx' z1 (by rw [h.cl.fst_up p1, h.cl.fst_up hx']) (.inr hl)
  refine ⟨by rw [List.length_set]; exact h.len, c2, fun m hm => by rw [f2 m (by rw [h.len]; exact hm)]; exact h.same m hm, fun m hm => ?_⟩
  by_cases e : x = m
  · subst e
    have e1 : par F x = fst V x := par_of (h.done x hm)
    have e2 : par F (par F x) = fst V x := by
      rw [e1, ← h.same x hx]
      exact (h.cl.fst_in x hx').2.1
    rw [List.getElem?_set_self hx', e2]
  · rw [List.getElem?_set_ne e]
    exact h.done m hm
theorem Good.put {R V F : List Int} {n : Nat} (h : Good R V F n) (hn : n < V.length) : Good R V (F.set n (fst V n : Int)) (n + 1) := by
  have hn' : n < F.length := by rw [h.len]; exact hn
  obtain ⟨a, b, c⟩ := h.cl.fst_in n hn'
  rw [← h.same n hn]
  have hl : fst F n = n ∧ par F n = n ∨ lessB R (fst F n) n = true := by
    rcases c with c | c
    · rw [c] at b; exact .inl ⟨c, b⟩
    · exact .inr c
  obtain ⟨c2, f2⟩ := h.cl.short hn' a (h.cl.fst_fst hn') hl
  refine ⟨by rw [List.length_set]; exact h.len, c2, fun m hm => by rw [f2 m (by rw [h.len]; exact hm)]; exact h.same m hm, fun m hm => ?_⟩
  by_cases e : n = m
  · subst e
    rw [List.getElem?_set_self hn', h.same n hn]
  · rw [List.getElem?_set_ne e]
    exact h.done m (by omega)
theorem Good.stop {R V F : List Int} {n x : Nat} (h : Good R V F n) (hx : x < V.length) (e : par F x = x) : fst V x = x := by
  rw [← h.same x hx]
  exact h.cl.fst_self (by rw [h.len]; exact hx) e
theorem Good.step {R V F : List Int} {n x : Nat} (h : Good R V F n) (hx : x < V.length) (hne : par F x ≠ x) : par F x < V.length ∧ par F (par F x) < V.length ∧ fst V (par F (par F x)) = fst V x ∧ dep R (par F (par F x)) V.length < dep R x V.length := by
  have hx' : x < F.length := by rw [h.len]; exact hx
  obtain ⟨p1, _, p3⟩ := h.cl.parent hx'
  obtain ⟨z1, _, z3⟩ := h.cl.parent p1
  have a := p3.resolve_left hne
  rw [h.len] at z1
  have p1' := p1
  rw [h.len] at p1'
  refine ⟨p1', z1, by rw [← h.same _ z1, h.cl.fst_up p1, h.cl.fst_up hx', h.same x hx], ?_⟩
  rcases z3 with e | e
  · rw [e]; exact dep_lt a p1'
  · exact dep_lt (less_trans e a) z1
/-- the first one of each -/
def firstRow (V : List Int) : List Int := (List.range V.length).map fun m => (fst V m : Int)
theorem firstRow_len (V : List Int) : (firstRow V).length = V.length := by simp [firstRow]
theorem firstRow_at {V : List Int} {m : Nat} (hm : m < V.length) : (firstRow V)[m]? = some (fst V m : Int) := by simp [firstRow, hm]
theorem Good.fin {R V F : List Int} (h : Good R V F V.length) : F = firstRow V := by
  refine List.ext_getElem? fun m => ?_
  by_cases hm : m < V.length
  · rw [firstRow_at hm]; exact h.done m hm
  · rw [List.getElem?_eq_none (by rw [h.len]; omega), List.getElem?_eq_none (by rw [firstRow_len]; omega)]

set_option maxRecDepth 100000 in
set_option maxHeartbeats 2000000 in
theorem allFirst_any (R : List Int) (c : Cells) (A D E : Option Addr) (n1 k1 n2 k2 n3 k3 : Nat) (w : World) (h1 : n1 = c.V.length) (h2 : n2 = c.N.length) (h3 : n3 = c.M.length) (h : Rd w c A k1 D k2 E k3) (hC : Cl R c.V) (hl : c.V.length ≤ 1000000) :
    Calls Try.prog 34 #[.agg #[.slice A n1 k1, .slice D n2 k2, .slice E n3 k3]] w (RowPost (firstRow c.V) w) := by
  subst h1 h2 h3
  have q0 := (Q.refl w).alloc (Obj.cells #[Value.slice A c.V.length k1, Value.slice D c.N.length k2, Value.slice E c.M.length k3] 25)
  have HB := Lib.hid (Box3.new w (Value.slice A c.V.length k1) (Value.slice D c.N.length k2) (Value.slice E c.M.length k3) 25)
  have HR := Lib.hid (h.q q0)
  have HC := Lib.hid hC
  have hmk := make_ints c.V.length (by omega)
  clear h hC
  go_enter Try.func34, Try.ntmps34
  go_upto_region 1 with fail
  generalize w.alloc (Obj.cells #[Value.slice A c.V.length k1, Value.slice D c.N.length k2, Value.slice E c.M.length k3] 25) = W0 at *
  have b0 := HB.out.c0
  go_wp2_with fail
  have HO := Lib.hid (own_made W0 c.V.length 3)
  have HQ := Lib.hid ((Q.refl W0).alloc (Obj.cells (madeCells #[Value.int IntKind.i64 0] c.V.length) 3))
  clear hmk b0
  generalize W0.alloc (Obj.cells (madeCells #[Value.int IntKind.i64 0] c.V.length) 3) = W1 at *
  obtain ⟨g, hg⟩ : ∃ g, g = W0.heap.size := ⟨_, rfl⟩
  rw [← hg] at HO ⊢
  have HG := Lib.hid hg
  clear hg
  go_loopw [13] (fun i wr => ∃ (k : Nat) (F : List Int), k ≤ c.V.length ∧ i = .int .i64 k ∧ F.length = c.V.length ∧ Hid (∀ n, n < k → F[n]? = some (par c.V n : Int)) ∧ Hid (OwnC wr g (cellsI F)) ∧ Hid (Q W0 wr)) (fun i _ => c.V.length - (intOf i).toNat)
  case atStart => exact ⟨0, _, Nat.zero_le _, rfl, by simp, Lib.hid (fun n hn => absurd hn (by omega)), HO, HQ⟩
  case round =>
    clear HO HQ
    obtain ⟨k, F, hk, rfl, hF, HH, HO, HQ⟩ := hrel
    have b0 := (HB.out.q HQ.out).c0
    by_cases hlt : k < c.V.length
    · obtain ⟨p1, p2, _⟩ := HC.out.parent hlt
      have C := Lib.hid (upU c.V A _ k1 k wr rfl (HR.out.v.q HQ.out) hlt _ p2 p1)
      have hc := HO.out.2 k _ (cellsI_at (show k < F.length by omega))
      have hc1 := hc.1
      have hc2 := hc.2
      have HS := Lib.hid (HO.out.set (s := k) (by rw [cellsI_len]; omega) (.int .i64 (par c.V k : Int)))
      rw [← cellsI_set] at HS
      have HQ2 : Hid (Q W0 (wr.setCell ⟨g, k, none⟩ (.int .i64 (par c.V k : Int)))) := grown_q (setCell_grown _ _ _ _) HQ.out (by rw [HG.out]; exact Nat.le_refl _)
      have hkF : k < F.length := by omega
      clear p1 p2 hc
      go_wp2_with (go_at_call 30; refine C.out.mono ?_; rintro e w2 ⟨rfl, rfl⟩)
      go_roundw
      case rel => exact ⟨k + 1, F.set k (par c.V k : Int), by omega, by go_num, by rw [List.length_set]; exact hF, Lib.hid (fun n hn => by
        by_cases e : k = n
        · subst e; exact List.getElem?_set_self hkF
        · rw [List.getElem?_set_ne e]; exact HH.out n (by omega)), HS, HQ2⟩
      case measure => simp [intOf]; omega
    · have hFV : F = c.V := List.ext_getElem? fun n => by
        by_cases e : n < c.V.length
        · rw [HH.out n (by omega), (HC.out.parent e).2.1]
        · rw [List.getElem?_eq_none (by omega), List.getElem?_eq_none (by omega)]
      subst hFV
      have HGd := Lib.hid (Good.start HC.out)
      clear HH hF hk
      go_wp2_with fail
      go_loopw [26] (fun i wr => ∃ (k : Nat) (F : List Int), k ≤ c.V.length ∧ i = .int .i64 k ∧ Hid (Good R c.V F k) ∧ Hid (OwnC wr g (cellsI F)) ∧ Hid (Q W0 wr)) (fun i _ => c.V.length - (intOf i).toNat)
      case atStart => exact ⟨0, c.V, Nat.zero_le _, rfl, HGd, HO, HQ⟩
      case round =>
        clear HGd HO HQ b0
        obtain ⟨n, F, hn, rfl, HGd, HO, HQ⟩ := hrel
        by_cases hlt : n < c.V.length
        · go_wp2_with fail
          go_loopw [6] (fun x wr => ∃ (y : Nat) (F : List Int), y < c.V.length ∧ x = .int .i64 (y : Int) ∧ Hid (fst c.V y = fst c.V n) ∧ Hid (Good R c.V F n) ∧ Hid (OwnC wr g (cellsI F)) ∧ Hid (Q W0 wr)) (fun x _ => dep R (intOf x).toNat c.V.length)
          case atStart => exact ⟨n, F, hlt, rfl, Lib.hid rfl, HGd, HO, HQ⟩
          case round =>
            clear HGd HO HQ
            obtain ⟨y, F, hy, rfl, HF, HGd, HO, HQ⟩ := hrel
            have hyF : y < F.length := by rw [HGd.out.len]; exact hy
            have hc := HO.out.2 y _ (cellsI_at hyF)
            rw [HGd.out.cl.at hyF] at hc
            have hc1 := hc.1
            have hc2 := hc.2
            clear hc
            by_cases e : par F y = y
            · have e1 : ((par F y : Int) != (y : Int)) = false := by rw [e]; simp
              have HY : Hid (y = fst c.V n) := by rw [← HF.out]; exact Lib.hid (HGd.out.stop hy e).symm
              have hnF : n < F.length := by rw [HGd.out.len]; exact hlt
              have hd := HO.out.2 n _ (cellsI_at hnF)
              have hd1 := hd.1
              have hd2 := hd.2
              have HS := Lib.hid (HO.out.set (s := n) (by rw [cellsI_len]; exact hnF) (.int .i64 (y : Int)))
              rw [← cellsI_set] at HS
              have HG2 : Hid (Good R c.V (F.set n (y : Int)) (n + 1)) := by rw [HY.out]; exact Lib.hid (HGd.out.put hlt)
              have HQ2 : Hid (Q W0 (wr.setCell ⟨g, n, none⟩ (.int .i64 (y : Int)))) := grown_q (setCell_grown _ _ _ _) HQ.out (by rw [HG.out]; exact Nat.le_refl _)
              have e2 : (par F y != y) = false := by rw [e]; simp
              clear e hd
              go_wp2_with fail
              go_roundw
              case rel => exact ⟨n + 1, _, by omega, by go_num, HG2, HS, HQ2⟩
              case measure => simp [intOf]; omega
            · obtain ⟨y1, z1, zf, zd⟩ := HGd.out.step hy e
              have HG2 := Lib.hid (HGd.out.short hy e)
              have HZ := Lib.hid zf
              have HD := Lib.hid zd
              have e1 : ((par F y : Int) != (y : Int)) = true := bne_iff_ne.2 (by omega)
              have e2 : (par F y != y) = true := by simpa using e
              have h1F : par F y < F.length := by rw [HGd.out.len]; exact y1
              have hd := HO.out.2 (par F y) _ (cellsI_at h1F)
              rw [HGd.out.cl.at h1F] at hd
              have hd1 := hd.1
              clear e hd zf zd
              generalize par F y = p at *
              generalize par F p = z at *
              have HS := Lib.hid (HO.out.set (s := y) (by rw [cellsI_len]; exact hyF) (.int .i64 (z : Int)))
              rw [← cellsI_set] at HS
              have hs1 : (wr.setCell ⟨g, y, none⟩ (.int .i64 (z : Int))).cell? ⟨g, y, none⟩ = some (.int .i64 (z : Int)) := setCell_eq hc1
              have HQ2 : Hid (Q W0 (wr.setCell ⟨g, y, none⟩ (.int .i64 (z : Int)))) := grown_q (setCell_grown _ _ _ _) HQ.out (by rw [HG.out]; exact Nat.le_refl _)
              go_wp2_with fail
              go_roundw
              case rel => exact ⟨z, _, z1, rfl, by rw [HZ.out]; exact HF, HG2, HS, HQ2⟩
              case measure => simp [intOf]; exact HD.out
        · obtain rfl : n = c.V.length := by omega
          obtain rfl := HGd.out.fin
          have HRd := Lib.hid HO.out.rds
          go_wp2_with fail
          go_ret
          exact ⟨_, c.V.length, by rw [firstRow_len]; rfl, by rw [firstRow_len]; exact Nat.le_refl _, HRd.out, q0.trans HQ.out⟩
end Go.Proofs.Ytodmompfnlcjpaa.Uf
