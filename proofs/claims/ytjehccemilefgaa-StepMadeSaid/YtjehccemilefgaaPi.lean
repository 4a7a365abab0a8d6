/-
  What the proofs lean on, part 9 of 16.
-/
import Derived.Test.YtjehccemilefgaaPf
import Derived.Test.YtjehccemilefgaaPh
namespace Go.Proofs.Ytjehccemilefgaa.St
open Go.RowKit Kit Rw

theorem slice_from (A : Option Addr) (n c a : Nat) (ha : a ≤ n) (hn : n ≤ c) : ∃ A', (∀ u : World, (Instr.slice 31 (.slice A n c) (some (.int .i64 (a : Int))) none none).run Try.prog u = .ok (.slice A' (n - a) (c - a)) u) ∧ (a < n → A' = A.map fun ad => ad.add (a * 2)) := by
  obtain ⟨i0, hi, hz0, hz1, hz2⟩ := info_parts pairInfo
  by_cases h : a < n
  · refine ⟨A.map fun ad => ad.add (a * 2), fun u => ?_, fun _ => rfl⟩
    simp [Instr.slice, run_underlying Try.underlying31, Instr.sliceBounds, Instr.sliceBound, asIntOf, sizeOf, typeInfo, hi, hz1, ha, Addr.add]
    intro h
    omega
  · obtain rfl : a = n := by omega
    by_cases hc : c - a = 0
    · refine ⟨A, fun u => ?_, fun h => absurd h (by omega)⟩
      simp [Instr.slice, run_underlying Try.underlying31, Instr.sliceBounds, Instr.sliceBound, asIntOf, sizeOf, typeInfo, hi, hz1, Addr.add]
      intro h
      omega
    · refine ⟨A.map fun ad => ad.add (a * 2), fun u => ?_, fun h => absurd h (by omega)⟩
      simp [Instr.slice, run_underlying Try.underlying31, Instr.sliceBounds, Instr.sliceBound, asIntOf, sizeOf, typeInfo, hi, hz1, Addr.add]
      intro h
      omega
theorem cellsQ_drop : ∀ (l : List PI) (a : Nat), cellsQ (l.drop a) = (cellsQ l).drop (a * 2)
  | _, 0 => rfl
  | [], a + 1 => by simp [cellsQ]
  | x :: l, a + 1 => by
    rw [List.drop_succ_cons, cellsQ_drop l a, show (a + 1) * 2 = a * 2 + 1 + 1 by omega]
    rfl
theorem add_add (ad : Addr) (i j : Nat) : (ad.add i).add j = ad.add (i + j) := by
  unfold Addr.add
  by_cases h : i = 0 <;> by_cases h' : j = 0 <;> simp [h, h', Nat.add_assoc]
theorem src_from {w : World} {B : Nat} {A A' : Option Addr} {l : List PI} (h : Rds w B A (cellsQ l)) {a : Nat} (hA : a < l.length → A' = A.map fun ad => ad.add (a * 2)) : Src w A' (cellsQ (l.drop a)) := fun h0 => by
  rw [cellsQ_len, List.length_drop] at h0
  obtain ⟨ad, e, hb, hc⟩ := h (by rw [cellsQ_len]; omega)
  rw [hA (by omega), e]
  refine ⟨_, rfl, fun j v hv => ?_⟩
  rw [cellsQ_drop, List.getElem?_drop] at hv
  rw [add_add]
  exact hc _ v hv
theorem cutP_at : ∀ (l : List PI) (p : PI) (k : Nat), k < l.length → k ≤ cutP l p → (ltP (l[k]?.getD (0, 0)) p ↔ k < cutP l p)
  | [], _, _, h, _ => by simp at h
  | a :: l, p, 0, _, _ => by
    unfold cutP
    by_cases h : ltP a p
    · rw [if_pos h]; simp [h]
    · rw [if_neg h]; simp [h]
  | a :: l, p, k + 1, h, h2 => by
    unfold cutP at h2 ⊢
    by_cases hh : ltP a p
    · rw [if_pos hh] at h2 ⊢
      have := cutP_at l p k (by simpa using h) (by omega)
      rw [List.getElem?_cons_succ, this]
      omega
    · rw [if_neg hh] at h2; omega
def LayPost (l : List PI) (w : World) (e : Ending) (w' : World) : Prop := ∃ v, e = .returned v ∧ w'.ownsRow w.heap.size 46 2 v l.length (cellsQ l) ∧ Q w w'
set_option maxRecDepth 100000 in
set_option maxHeartbeats 4000000 in
theorem refLayP_any (A : Option Addr) (n c : Nat) (l : List PI) (p : PI) (w : World) (hn : n = l.length) (hc : l.length ≤ c) (hr : Rds w w.heap.size A (cellsQ l)) (hl : l.length ≤ 1000000) :
    Calls Try.prog 20 #[.slice A n c, .agg #[.int .i64 p.1, .int .i64 p.2]] w (LayPost (layP l p) w) := by
  subst hn
  obtain ⟨i0, hi, hz0, hz1, hz2⟩ := info_parts pairInfo
  have Hi := Lib.hid hi
  have Hz0 := Lib.hid hz0
  have Hz1 := Lib.hid hz1
  have Hz2 := Lib.hid hz2
  clear hi hz0 hz1 hz2
  have q0 := (Q.refl w).alloc (Obj.cells #[.int .i64 p.1, .int .i64 p.2] 46)
  have HR := Lib.hid (hr.q q0)
  have HB := Lib.hid (Ex.own_new8 w [.int .i64 p.1, .int .i64 p.2] 46)
  have HQ0 := Lib.hid q0
  clear hr q0
  go_enter Try.func20, Try.ntmps20
  go_wp2_with fail
  generalize w.alloc (Obj.cells #[.int .i64 p.1, .int .i64 p.2] 46) = W0 at *
  go_loopw [5, 6] (fun u iv wr => ∃ (k : Nat) (v : Value), k ≤ l.length ∧ iv = .int .i64 k ∧ v = u ∧ Hid (k ≤ cutP l p) ∧ Hid (wr.ownsRow W0.heap.size 46 2 v k (cellsQ (l.take k))) ∧ Hid (Q W0 wr)) (fun _ iv _ => l.length - (intOf iv).toNat)
  case atStart => exact ⟨0, _, Nat.zero_le _, rfl, rfl, Lib.hid (Nat.zero_le _), Lib.hid (own_nil W0 _ _ _), Lib.hid (Q.refl W0)⟩
  case round =>
    obtain ⟨k, v, hk, rfl, rfl, HC, HO, HQ⟩ := hrel
    have b0 := ((HB.out.q HQ.out).2 0 _ rfl).1
    have b1 := ((HB.out.q HQ.out).2 1 _ rfl).1
    have j0 : (0 : Int) ≤ (k : Int) := Int.natCast_nonneg _
    by_cases hlt : k < l.length
    · obtain ⟨ad, rfl, hb, c0, c1⟩ := pair_at (HR.out.q HQ.out) hlt
      have hcut := cutP_at l p k hlt HC.out
      rw [List.getElem?_eq_getElem hlt, Option.getD_some] at hcut
      have j1 : (k : Int) < (l.length : Int) := by omega
      have HTk : Hid (l.take (k + 1) = l.take k ++ [l[k]]) := Lib.hid (by rw [List.take_succ_eq_append_getElem hlt])
      generalize hz : l[k] = z at *
      by_cases h1 : z.1 < p.1
      · have d1 : decide (z.1 < p.1) = true := decide_eq_true h1
        have HC2 := Lib.hid (hcut.1 (.inl h1))
        clear hcut
        go_wp2_with fail
        go_quiet (fail)
        have Qwq := Lib.hid (HQ.out.drewN nq)
        have Owq := Lib.hid (row_kept HO.out ((Q.refl wr).drewN nq) (Nat.le_refl _))
        clear HQ HO b0 b1
        generalize wr.drewN nq = wq at *
        have b0 := ((HB.out.q Qwq.out).2 0 _ rfl).1
        have b1 := ((HB.out.q Qwq.out).2 1 _ rfl).1
        clear c0 c1
        obtain ⟨ady, ey, _, c0, c1⟩ := pair_at (HR.out.q Qwq.out) hlt
        injection ey with ey
        subst ey
        rw [hz] at c0 c1
        clear hz b0 b1
        have HQE := Lib.hid (Qwq.out.alloc (Obj.cells #[.int .i64 z.1, .int .i64 z.2] 46))
        have HOE := Lib.hid (row_kept Owq.out ((Q.refl wq).alloc (Obj.cells #[.int .i64 z.1, .int .i64 z.2] 46)) (Nat.le_refl _))
        have HSE := Lib.hid (src_alloc wq [.int .i64 z.1, .int .i64 z.2] 46 (0, 0))
        go_wp2_with (at_builtin; refine wpList_append_src _ rfl (.tmp 41) (.tmp 46) _ rfl W0.heap.size 46 i0 _ 2 16 Try.underlying31 Hi.out Hz0.out Hz1.out Hz2.out rfl (by omega) v k (cellsQ (l.take k)) rfl HOE.out (some ⟨wq.heap.size, 0, none⟩) 1 1 [.int .i64 z.1, .int .i64 z.2] rfl rfl HSE.out (by simp [Value.oneCell']) (by unfold maxLen; omega) (by omega) HQE.out.size ?_; intro vb wb ownb grb _; have Ob := Lib.hid ownb; have Qb : Hid (Q W0 wb) := Below.grown HQE.out grb HQE.out.size (fun k e => ((HOE.out).lt k e).1); clear ownb grb)
        go_roundw
        case rel => exact ⟨k + 1, vb, by omega, by go_num, rfl, HC2, by rw [HTk.out, cellsQ_append]; exact Ob, Qb⟩
        case measure => simp [intOf]; omega
      · have d1 : decide (z.1 < p.1) = false := decide_eq_false h1
        by_cases h2 : z.1 = p.1
        · have d2 : (z.1 == p.1) = true := beq_iff_eq.2 h2
          by_cases h3 : z.2 < p.2
          · have d3 : decide (z.2 < p.2) = true := decide_eq_true h3
            have HC2 := Lib.hid (hcut.1 (.inr ⟨h2, h3⟩))
            clear h2
            clear hcut
            go_wp2_with fail
            go_quiet (fail)
            have Qwq := Lib.hid (HQ.out.drewN nq)
            have Owq := Lib.hid (row_kept HO.out ((Q.refl wr).drewN nq) (Nat.le_refl _))
            clear HQ HO b0 b1
            generalize wr.drewN nq = wq at *
            have b0 := ((HB.out.q Qwq.out).2 0 _ rfl).1
            have b1 := ((HB.out.q Qwq.out).2 1 _ rfl).1
            clear c0 c1
            obtain ⟨ady, ey, _, c0, c1⟩ := pair_at (HR.out.q Qwq.out) hlt
            injection ey with ey
            subst ey
            rw [hz] at c0 c1
            clear hz b0 b1
            have HQE := Lib.hid (Qwq.out.alloc (Obj.cells #[.int .i64 z.1, .int .i64 z.2] 46))
            have HOE := Lib.hid (row_kept Owq.out ((Q.refl wq).alloc (Obj.cells #[.int .i64 z.1, .int .i64 z.2] 46)) (Nat.le_refl _))
            have HSE := Lib.hid (src_alloc wq [.int .i64 z.1, .int .i64 z.2] 46 (0, 0))
            go_wp2_with (at_builtin; refine wpList_append_src _ rfl (.tmp 41) (.tmp 46) _ rfl W0.heap.size 46 i0 _ 2 16 Try.underlying31 Hi.out Hz0.out Hz1.out Hz2.out rfl (by omega) v k (cellsQ (l.take k)) rfl HOE.out (some ⟨wq.heap.size, 0, none⟩) 1 1 [.int .i64 z.1, .int .i64 z.2] rfl rfl HSE.out (by simp [Value.oneCell']) (by unfold maxLen; omega) (by omega) HQE.out.size ?_; intro vb wb ownb grb _; have Ob := Lib.hid ownb; have Qb : Hid (Q W0 wb) := Below.grown HQE.out grb HQE.out.size (fun k e => ((HOE.out).lt k e).1); clear ownb grb)
            go_roundw
            case rel => exact ⟨k + 1, vb, by omega, by go_num, rfl, HC2, by rw [HTk.out, cellsQ_append]; exact Ob, Qb⟩
            case measure => simp [intOf]; omega
          · have d3 : decide (z.2 < p.2) = false := decide_eq_false h3
            have hno : ¬ ltP z p := by unfold ltP; omega
            clear h2
            have hck : cutP l p = k := by
              have := HC.out
              rcases Nat.lt_or_ge k (cutP l p) with h | h
              · exact absurd (hcut.2 h) hno
              · omega
            have e6 : ((k : Int) == (l.length : Int)) = false := beq_eq_false_iff_ne.2 (by omega)
            have HE' := fun w => run_neq_pair w z p
            have hlk : l[k]? = some z := by rw [List.getElem?_eq_getElem hlt, hz]
            have HL0 := layP_cut p l
            rw [hck, hlk] at HL0
            clear hcut hno hck hlk
            cases he : eqP z p
            · rw [he] at HE'
              have hne : ¬ z = p := fun h => by rw [(eqP_iff _ _).2 h] at he; cases he
              rw [if_neg (fun h => hne (Option.some.inj h))] at HL0
              have HL := Lib.hid HL0
              clear he hne HL0
              obtain ⟨A', hsl, hA'⟩ := slice_from (some ad) l.length c k hk hc
              have HA' := Lib.hid hA'
              clear hA'
              go_wp2_with fail
              go_quiet (fail)
              have Qwq := Lib.hid (HQ.out.drewN nq)
              have Owq := Lib.hid (row_kept HO.out ((Q.refl wr).drewN nq) (Nat.le_refl _))
              clear HQ HO b0 b1
              generalize wr.drewN nq = wq at *
              have b0 := ((HB.out.q Qwq.out).2 0 _ rfl).1
              have b1 := ((HB.out.q Qwq.out).2 1 _ rfl).1
              clear c0 c1
              obtain ⟨ady, ey, _, c0, c1⟩ := pair_at (HR.out.q Qwq.out) hlt
              injection ey with ey
              subst ey
              rw [hz] at c0 c1
              go_wp2_with fail
              go_quiet (fail)
              have Qwx := Lib.hid (Qwq.out.drewN nq)
              have Owx := Lib.hid (row_kept Owq.out ((Q.refl wq).drewN nq) (Nat.le_refl _))
              clear Qwq Owq b0 b1
              generalize wq.drewN nq = wx at *
              have b0 := ((HB.out.q Qwx.out).2 0 _ rfl).1
              have b1 := ((HB.out.q Qwx.out).2 1 _ rfl).1
              clear c0 c1 hz
              have HQE := Lib.hid (Qwx.out.alloc (Obj.cells #[.int .i64 p.1, .int .i64 p.2] 46))
              have HOE := Lib.hid (row_kept Owx.out ((Q.refl wx).alloc (Obj.cells #[.int .i64 p.1, .int .i64 p.2] 46)) (Nat.le_refl _))
              have HSE := Lib.hid (src_alloc wx [.int .i64 p.1, .int .i64 p.2] 46 (0, 0))
              go_wp2_with (first
                | (at_builtin; refine wpList_append_src _ rfl (.tmp 62) (.tmp 64) _ rfl W0.heap.size 46 i0 _ 2 16 Try.underlying31 Hi.out Hz0.out Hz1.out Hz2.out rfl (by omega) v k (cellsQ (l.take k)) rfl HOE.out (some ⟨wx.heap.size, 0, none⟩) 1 1 [.int .i64 p.1, .int .i64 p.2] rfl rfl HSE.out (by simp [Value.oneCell']) (by unfold maxLen; omega) (by omega) HQE.out.size ?_; intro vb wb ownb grb _; have Ob := Lib.hid ownb; have Qb : Hid (Q W0 wb) := Below.grown HQE.out grb HQE.out.size (fun k e => ((HOE.out).lt k e).1); have HSD := Lib.hid (src_from (HR.out.q Qb.out) HA'.out); clear ownb grb)
                | (at_builtin; refine wpList_append_src _ rfl (.tmp 66) (.tmp 69) _ rfl W0.heap.size 46 i0 _ 2 16 Try.underlying31 Hi.out Hz0.out Hz1.out Hz2.out rfl (by omega) vb (k + 1) (cellsQ (l.take k) ++ [.int .i64 p.1, .int .i64 p.2]) rfl Ob.out A' (l.length - k) (c - k) (cellsQ (l.drop k)) rfl (by rw [cellsQ_len, List.length_drop]) HSD.out (cellsQ_one _) (by unfold maxLen; omega) (by omega) Qb.out.size ?_; intro vd wd ownd grd _; have Od := Lib.hid ownd; have Qd : Hid (Q W0 wd) := Below.grown Qb.out grd Qb.out.size (fun k e => ((Ob.out).lt k e).1); clear ownd grd))
              go_ret
              exact ⟨vd, rfl, by rw [HL.out, cellsQ_append, cellsQ_append, List.length_append, List.length_append, List.length_take, List.length_drop, Nat.min_eq_left hk]; exact row_kept Od.out (Q.refl wd) HQ0.out.size, HQ0.out.trans Qd.out⟩
            · rw [he] at HE'
              have hne : z = p := (eqP_iff _ _).1 he
              rw [if_pos (by rw [hne]), List.append_nil] at HL0
              have HL := Lib.hid HL0
              clear he hne HL0
              obtain ⟨A', hsl, hA'⟩ := slice_from (some ad) l.length c k hk hc
              have HA' := Lib.hid hA'
              clear hA'
              go_wp2_with fail
              go_quiet (fail)
              have Qwq := Lib.hid (HQ.out.drewN nq)
              have Owq := Lib.hid (row_kept HO.out ((Q.refl wr).drewN nq) (Nat.le_refl _))
              clear HQ HO b0 b1
              generalize wr.drewN nq = wq at *
              have b0 := ((HB.out.q Qwq.out).2 0 _ rfl).1
              have b1 := ((HB.out.q Qwq.out).2 1 _ rfl).1
              clear c0 c1
              obtain ⟨ady, ey, _, c0, c1⟩ := pair_at (HR.out.q Qwq.out) hlt
              injection ey with ey
              subst ey
              rw [hz] at c0 c1
              go_wp2_with fail
              go_quiet (fail)
              have Qwx := Lib.hid (Qwq.out.drewN nq)
              have Owx := Lib.hid (row_kept Owq.out ((Q.refl wq).drewN nq) (Nat.le_refl _))
              clear Qwq Owq b0 b1
              generalize wq.drewN nq = wx at *
              have b0 := ((HB.out.q Qwx.out).2 0 _ rfl).1
              have b1 := ((HB.out.q Qwx.out).2 1 _ rfl).1
              clear c0 c1 hz
              have HSD := Lib.hid (src_from (HR.out.q Qwx.out) HA'.out)
              go_wp2_with (at_builtin; refine wpList_append_src _ rfl (.tmp 66) (.tmp 69) _ rfl W0.heap.size 46 i0 _ 2 16 Try.underlying31 Hi.out Hz0.out Hz1.out Hz2.out rfl (by omega) v k (cellsQ (l.take k)) rfl Owx.out A' (l.length - k) (c - k) (cellsQ (l.drop k)) rfl (by rw [cellsQ_len, List.length_drop]) HSD.out (cellsQ_one _) (by unfold maxLen; omega) (by omega) Qwx.out.size ?_; intro vd wd ownd grd _; have Od := Lib.hid ownd; have Qd : Hid (Q W0 wd) := Below.grown Qwx.out grd Qwx.out.size (fun k e => ((Owx.out).lt k e).1); clear ownd grd)
              go_ret
              exact ⟨vd, rfl, by rw [HL.out, cellsQ_append, List.length_append, List.length_take, List.length_drop, Nat.min_eq_left hk]; exact row_kept Od.out (Q.refl wd) HQ0.out.size, HQ0.out.trans Qd.out⟩
        · have d2 : (z.1 == p.1) = false := beq_eq_false_iff_ne.2 h2
          have hno : ¬ ltP z p := by unfold ltP; omega
          clear h2
          have hck : cutP l p = k := by
            have := HC.out
            rcases Nat.lt_or_ge k (cutP l p) with h | h
            · exact absurd (hcut.2 h) hno
            · omega
          have e6 : ((k : Int) == (l.length : Int)) = false := beq_eq_false_iff_ne.2 (by omega)
          have HE' := fun w => run_neq_pair w z p
          have hlk : l[k]? = some z := by rw [List.getElem?_eq_getElem hlt, hz]
          have HL0 := layP_cut p l
          rw [hck, hlk] at HL0
          clear hcut hno hck hlk
          cases he : eqP z p
          · rw [he] at HE'
            have hne : ¬ z = p := fun h => by rw [(eqP_iff _ _).2 h] at he; cases he
            rw [if_neg (fun h => hne (Option.some.inj h))] at HL0
            have HL := Lib.hid HL0
            clear he hne HL0
            obtain ⟨A', hsl, hA'⟩ := slice_from (some ad) l.length c k hk hc
            have HA' := Lib.hid hA'
            clear hA'
            go_wp2_with fail
            go_quiet (fail)
            have Qwq := Lib.hid (HQ.out.drewN nq)
            have Owq := Lib.hid (row_kept HO.out ((Q.refl wr).drewN nq) (Nat.le_refl _))
            clear HQ HO b0 b1
            generalize wr.drewN nq = wq at *
            have b0 := ((HB.out.q Qwq.out).2 0 _ rfl).1
            have b1 := ((HB.out.q Qwq.out).2 1 _ rfl).1
            clear c0 c1
            obtain ⟨ady, ey, _, c0, c1⟩ := pair_at (HR.out.q Qwq.out) hlt
            injection ey with ey
            subst ey
            rw [hz] at c0 c1
            go_wp2_with fail
            go_quiet (fail)
            have Qwx := Lib.hid (Qwq.out.drewN nq)
            have Owx := Lib.hid (row_kept Owq.out ((Q.refl wq).drewN nq) (Nat.le_refl _))
            clear Qwq Owq b0 b1
            generalize wq.drewN nq = wx at *
            have b0 := ((HB.out.q Qwx.out).2 0 _ rfl).1
            have b1 := ((HB.out.q Qwx.out).2 1 _ rfl).1
            clear c0 c1 hz
            have HQE := Lib.hid (Qwx.out.alloc (Obj.cells #[.int .i64 p.1, .int .i64 p.2] 46))
            have HOE := Lib.hid (row_kept Owx.out ((Q.refl wx).alloc (Obj.cells #[.int .i64 p.1, .int .i64 p.2] 46)) (Nat.le_refl _))
            have HSE := Lib.hid (src_alloc wx [.int .i64 p.1, .int .i64 p.2] 46 (0, 0))
            go_wp2_with (first
              | (at_builtin; refine wpList_append_src _ rfl (.tmp 62) (.tmp 64) _ rfl W0.heap.size 46 i0 _ 2 16 Try.underlying31 Hi.out Hz0.out Hz1.out Hz2.out rfl (by omega) v k (cellsQ (l.take k)) rfl HOE.out (some ⟨wx.heap.size, 0, none⟩) 1 1 [.int .i64 p.1, .int .i64 p.2] rfl rfl HSE.out (by simp [Value.oneCell']) (by unfold maxLen; omega) (by omega) HQE.out.size ?_; intro vb wb ownb grb _; have Ob := Lib.hid ownb; have Qb : Hid (Q W0 wb) := Below.grown HQE.out grb HQE.out.size (fun k e => ((HOE.out).lt k e).1); have HSD := Lib.hid (src_from (HR.out.q Qb.out) HA'.out); clear ownb grb)
              | (at_builtin; refine wpList_append_src _ rfl (.tmp 66) (.tmp 69) _ rfl W0.heap.size 46 i0 _ 2 16 Try.underlying31 Hi.out Hz0.out Hz1.out Hz2.out rfl (by omega) vb (k + 1) (cellsQ (l.take k) ++ [.int .i64 p.1, .int .i64 p.2]) rfl Ob.out A' (l.length - k) (c - k) (cellsQ (l.drop k)) rfl (by rw [cellsQ_len, List.length_drop]) HSD.out (cellsQ_one _) (by unfold maxLen; omega) (by omega) Qb.out.size ?_; intro vd wd ownd grd _; have Od := Lib.hid ownd; have Qd : Hid (Q W0 wd) := Below.grown Qb.out grd Qb.out.size (fun k e => ((Ob.out).lt k e).1); clear ownd grd))
            go_ret
            exact ⟨vd, rfl, by rw [HL.out, cellsQ_append, cellsQ_append, List.length_append, List.length_append, List.length_take, List.length_drop, Nat.min_eq_left hk]; exact row_kept Od.out (Q.refl wd) HQ0.out.size, HQ0.out.trans Qd.out⟩
          · rw [he] at HE'
            have hne : z = p := (eqP_iff _ _).1 he
            rw [if_pos (by rw [hne]), List.append_nil] at HL0
            have HL := Lib.hid HL0
            clear he hne HL0
            obtain ⟨A', hsl, hA'⟩ := slice_from (some ad) l.length c k hk hc
            have HA' := Lib.hid hA'
            clear hA'
            go_wp2_with fail
            go_quiet (fail)
            have Qwq := Lib.hid (HQ.out.drewN nq)
            have Owq := Lib.hid (row_kept HO.out ((Q.refl wr).drewN nq) (Nat.le_refl _))
            clear HQ HO b0 b1
            generalize wr.drewN nq = wq at *
            have b0 := ((HB.out.q Qwq.out).2 0 _ rfl).1
            have b1 := ((HB.out.q Qwq.out).2 1 _ rfl).1
            clear c0 c1
            obtain ⟨ady, ey, _, c0, c1⟩ := pair_at (HR.out.q Qwq.out) hlt
            injection ey with ey
            subst ey
            rw [hz] at c0 c1
            go_wp2_with fail
            go_quiet (fail)
            have Qwx := Lib.hid (Qwq.out.drewN nq)
            have Owx := Lib.hid (row_kept Owq.out ((Q.refl wq).drewN nq) (Nat.le_refl _))
            clear Qwq Owq b0 b1
            generalize wq.drewN nq = wx at *
            have b0 := ((HB.out.q Qwx.out).2 0 _ rfl).1
            have b1 := ((HB.out.q Qwx.out).2 1 _ rfl).1
            clear c0 c1 hz
            have HSD := Lib.hid (src_from (HR.out.q Qwx.out) HA'.out)
            go_wp2_with (at_builtin; refine wpList_append_src _ rfl (.tmp 66) (.tmp 69) _ rfl W0.heap.size 46 i0 _ 2 16 Try.underlying31 Hi.out Hz0.out Hz1.out Hz2.out rfl (by omega) v k (cellsQ (l.take k)) rfl Owx.out A' (l.length - k) (c - k) (cellsQ (l.drop k)) rfl (by rw [cellsQ_len, List.length_drop]) HSD.out (cellsQ_one _) (by unfold maxLen; omega) (by omega) Qwx.out.size ?_; intro vd wd ownd grd _; have Od := Lib.hid ownd; have Qd : Hid (Q W0 wd) := Below.grown Qwx.out grd Qwx.out.size (fun k e => ((Owx.out).lt k e).1); clear ownd grd)
            go_ret
            exact ⟨vd, rfl, by rw [HL.out, cellsQ_append, List.length_append, List.length_take, List.length_drop, Nat.min_eq_left hk]; exact row_kept Od.out (Q.refl wd) HQ0.out.size, HQ0.out.trans Qd.out⟩
    · have hkx : k = l.length := by omega
      have hck : cutP l p = k := by have := HC.out; have := cutP_le p l; omega
      have e6 : ((k : Int) == (l.length : Int)) = true := beq_iff_eq.2 (by omega)
      have d0 : decide ((k : Int) < (l.length : Int)) = false := decide_eq_false (by omega)
      have HL0 := layP_cut p l
      rw [hck, List.getElem?_eq_none (by omega), if_neg (by simp)] at HL0
      have HL := Lib.hid HL0
      clear HL0 hck hkx
      obtain ⟨A', hsl, hA'⟩ := slice_from A l.length c k hk hc
      have HA' := Lib.hid hA'
      clear hA'
      go_wp2_with fail
      go_quiet (fail)
      have Qwq := Lib.hid (HQ.out.drewN nq)
      have Owq := Lib.hid (row_kept HO.out ((Q.refl wr).drewN nq) (Nat.le_refl _))
      clear HQ HO b0 b1
      generalize wr.drewN nq = wq at *
      have b0 := ((HB.out.q Qwq.out).2 0 _ rfl).1
      have b1 := ((HB.out.q Qwq.out).2 1 _ rfl).1
      go_wp2_with fail
      go_quiet (fail)
      have Qwx := Lib.hid (Qwq.out.drewN nq)
      have Owx := Lib.hid (row_kept Owq.out ((Q.refl wq).drewN nq) (Nat.le_refl _))
      clear Qwq Owq b0 b1
      generalize wq.drewN nq = wx at *
      have b0 := ((HB.out.q Qwx.out).2 0 _ rfl).1
      have b1 := ((HB.out.q Qwx.out).2 1 _ rfl).1
      have HQE := Lib.hid (Qwx.out.alloc (Obj.cells #[.int .i64 p.1, .int .i64 p.2] 46))
      have HOE := Lib.hid (row_kept Owx.out ((Q.refl wx).alloc (Obj.cells #[.int .i64 p.1, .int .i64 p.2] 46)) (Nat.le_refl _))
      have HSE := Lib.hid (src_alloc wx [.int .i64 p.1, .int .i64 p.2] 46 (0, 0))
      go_wp2_with (first
        | (at_builtin; refine wpList_append_src _ rfl (.tmp 62) (.tmp 64) _ rfl W0.heap.size 46 i0 _ 2 16 Try.underlying31 Hi.out Hz0.out Hz1.out Hz2.out rfl (by omega) v k (cellsQ (l.take k)) rfl HOE.out (some ⟨wx.heap.size, 0, none⟩) 1 1 [.int .i64 p.1, .int .i64 p.2] rfl rfl HSE.out (by simp [Value.oneCell']) (by unfold maxLen; omega) (by omega) HQE.out.size ?_; intro vb wb ownb grb _; have Ob := Lib.hid ownb; have Qb : Hid (Q W0 wb) := Below.grown HQE.out grb HQE.out.size (fun k e => ((HOE.out).lt k e).1); have HSD := Lib.hid (src_from (HR.out.q Qb.out) HA'.out); clear ownb grb)
        | (at_builtin; refine wpList_append_src _ rfl (.tmp 66) (.tmp 69) _ rfl W0.heap.size 46 i0 _ 2 16 Try.underlying31 Hi.out Hz0.out Hz1.out Hz2.out rfl (by omega) vb (k + 1) (cellsQ (l.take k) ++ [.int .i64 p.1, .int .i64 p.2]) rfl Ob.out A' (l.length - k) (c - k) (cellsQ (l.drop k)) rfl (by rw [cellsQ_len, List.length_drop]) HSD.out (cellsQ_one _) (by unfold maxLen; omega) (by omega) Qb.out.size ?_; intro vd wd ownd grd _; have Od := Lib.hid ownd; have Qd : Hid (Q W0 wd) := Below.grown Qb.out grd Qb.out.size (fun k e => ((Ob.out).lt k e).1); clear ownd grd))
      go_ret
      exact ⟨vd, rfl, by rw [HL.out, cellsQ_append, cellsQ_append, List.length_append, List.length_append, List.length_take, List.length_drop, Nat.min_eq_left hk]; exact row_kept Od.out (Q.refl wd) HQ0.out.size, HQ0.out.trans Qd.out⟩
end Go.Proofs.Ytjehccemilefgaa.St

namespace Go.Proofs.Ytjehccemilefgaa.St
open Go.RowKit Kit Rw
open Go.Proofs.Ytjehccemilefgaa.Sg (Sig Row)
open Go.Proofs.Ytjehccemilefgaa.Hs (Ints Keys BoxT)
open Go.Proofs.Ytjehccemilefgaa.Tm (Tm Store isPl)
def AllPost (L : List Sig) (ks : List (List Int)) (p : PI) (w : World) (e : Ending) (w' : World) : Prop := ∃ A c B d, e = .returned (.tuple #[.slice A (kindC L ks 2 p).length c, .slice B (kindC L ks 3 p).length d]) ∧ Rds w' w'.heap.size A (cellsQ (kindC L ks 2 p)) ∧ Rds w' w'.heap.size B (cellsQ (kindC L ks 3 p)) ∧ Q w w'
theorem own_first (w : World) (x y : Int) : (w.alloc (Obj.cells #[.int .i64 x, .int .i64 y] 46)).ownsRow w.heap.size 46 2 (.slice (some ⟨w.heap.size, 0, none⟩) 1 1) 1 (cellsQ [(x, y)]) :=
  ⟨rfl, .inr ⟨w.heap.size, 1, #[.int .i64 x, .int .i64 y], rfl, Nat.le_refl _, heap_alloc_new w _, Nat.le_refl _, by unfold maxLen; omega, rfl, rfl⟩⟩
theorem own_open2 {w : World} {base : Nat} {v : Value} {l : List PI} (h : w.ownsRow base 46 2 v l.length (cellsQ l)) :
    ∃ A c, v = .slice A l.length c ∧ l.length ≤ c ∧ Rds w w.heap.size A (cellsQ l) ∧ ∀ g, v.ownBlock = some g → base ≤ g ∧ g < w.heap.size := by
  by_cases h0 : 0 < l.length
  · have h2 := h
    obtain ⟨_, ⟨_, hz⟩ | ⟨g, c, cur, rfl, _, _, hle, _⟩⟩ := h
    · omega
    · exact ⟨_, c, rfl, hle, (OwnC.of_row h2).rds, fun g e => h2.lt g e⟩
  · have hl : l = [] := List.length_eq_zero_iff.1 (by omega)
    subst hl
    have h2 := h
    obtain ⟨_, ⟨rfl, _⟩ | ⟨g, c, cur, rfl, _⟩⟩ := h
    · exact ⟨none, 0, rfl, Nat.le_refl _, Rds.nil _ _ _, fun g e => h2.lt g e⟩
    · exact ⟨_, c, rfl, Nat.zero_le _, Rds.nil _ _ _, fun g e => h2.lt g e⟩
/-- a row's block isn't another's -/
def Ap (v u : Value) : Prop := v.ownBlock = none ∨ v.ownBlock ≠ u.ownBlock
theorem ap_new {v u u' : Value} {N M : Nat} (hv : ∀ g, v.ownBlock = some g → g < N) (hu : u'.ownBlock = u.ownBlock ∨ u'.ownBlock = some M) (hN : N ≤ M) (h : Ap v u) : Ap v u' := by
  rcases hu with e | e
  · unfold Ap; rw [e]; exact h
  · cases hb : v.ownBlock with
    | none => exact .inl hb
    | some g =>
      refine .inr ?_
      rw [hb, e]
      intro he
      injection he with he
      have := hv g hb
      omega
theorem ap_fresh {v u : Value} {M : Nat} (hv : ∀ g, v.ownBlock = some g → M ≤ g) (hu : ∀ g, u.ownBlock = some g → g < M) : Ap v u := by
  cases hb : v.ownBlock with
  | none => exact .inl hb
  | some g =>
    refine .inr ?_
    rw [hb]
    intro he
    have := hv g hb
    have := hu g he.symm
    omega
theorem ne_new {u u' : Value} {g M : Nat} (h : u.ownBlock ≠ some g) (hu : u'.ownBlock = u.ownBlock ∨ u'.ownBlock = some M) (hg : g < M) : u'.ownBlock ≠ some g := by
  rcases hu with e | e <;> rw [e]
  · exact h
  · intro he; injection he with he; omega
theorem rds_row {w w' : World} {row : Option Nat} {A : Option Addr} {cs : List Value} (h : Rds w w.heap.size A cs) (gr : w.grownBy w' row) (hne : ∀ ad, A = some ad → row ≠ some ad.block) : Rds w' w'.heap.size A cs := fun h0 => by
  obtain ⟨ad, e, hlt, hc⟩ := h h0
  refine ⟨ad, e, Nat.lt_of_lt_of_le hlt gr.size, fun j v hv => ?_⟩
  rw [← hc j v hv]
  have hb := gr.block ad.block hlt (fun e' => hne ad e e'.symm)
  unfold World.cell?
  rw [add_block, hb]
def CutW (W : World) (wy : Int × List PI) (p : Value) (wx : World) : Prop := ∃ wb A3 c3, p = .pointer (some ⟨wb, 0, none⟩) ∧ OwnC wx wb [.int .i64 wy.1, .slice A3 wy.2.length c3] ∧ W.heap.size ≤ wb ∧ Rds wx wx.heap.size A3 (cellsQ wy.2) ∧ (∀ ad, A3 = some ad → W.heap.size ≤ ad.block) ∧ Q W wx
def CutL (W : World) (base : Nat) (l : List PI) (u p : Value) (wx : World) : Prop := ∃ v, v = p ∧ wx.ownsRow base 46 2 v l.length (cellsQ l) ∧ Ap v u ∧ Q W wx
theorem boxT_grown {W W' : World} {B : Nat} {a b : Value} {row : Option Nat} (h : BoxT W B a b) (gr : W.grownBy W' row) (hr : row ≠ some B) : BoxT W' B a b := by
  have hb := gr.block B h.lt (fun e => hr e.symm)
  refine ⟨?_, ?_, Nat.lt_of_lt_of_le h.lt gr.size⟩
  · rw [← h.c0]; unfold World.cell?; rw [hb]
  · rw [← h.c1]; unfold World.cell?; rw [hb]
theorem conF_len {L : List Sig} {s : Int} : ∀ (k : Nat) (l m : List Int), (conF L s k l m).length ≤ 2 * l.length
  | k, a :: l, b :: m => by
    rw [conF, List.length_append, List.length_cons]
    have := pairsF_len a b (varyN L s k)
    have := conF_len (L := L) (s := s) (k + 1) l m
    omega
  | _, [], _ => by simp [conF]
  | _, _ :: _, [] => by simp [conF]
theorem stepT_len (L : List Sig) (x y : Int) (s t : Tm) : (stepT L x y s t).2.length ≤ 2 * s.xs.length + 2 := by
  unfold stepT
  split; · simp
  split; · simp
  split; · simp
  split; · simp
  split
  · unfold projF
    split
    · simp only [List.length_append]
      split <;> split <;> simp
    · split
      · exact Nat.le_trans (pairsF_len _ _ _) (by omega)
      · simp
  split
  · exact Nat.le_trans (conF_len _ _ _) (by omega)
  split <;> simp
theorem step_len {L : List Sig} {ks : List (List Int)} (hS : Store L ks) (hl8 : ∀ s ∈ L, s.2.size ≤ 8) (x y : Int) : (stepF L ks x y).2.length ≤ 18 := by
  by_cases hxy : isPl x ks.length = true ∧ isPl y ks.length = true
  · obtain ⟨x0, x1⟩ := (Go.Proofs.Ytjehccemilefgaa.Tm.isPl_iff _ _).1 hxy.1
    obtain ⟨y0, y1⟩ := (Go.Proofs.Ytjehccemilefgaa.Tm.isPl_iff _ _).1 hxy.2
    obtain ⟨i, rfl⟩ := Int.eq_ofNat_of_zero_le x0
    obtain ⟨j, rfl⟩ := Int.eq_ofNat_of_zero_le y0
    have hi : i < ks.length := by omega
    have hj : j < ks.length := by omega
    rw [stepF_at hS hi hj]
    refine Nat.le_trans (stepT_len _ _ _ _ _) ?_
    have : (Go.Proofs.Ytjehccemilefgaa.Ld.tmP ks i).xs.length ≤ 8 := by
      cases (place_tok hS hi).1 with
      | leaf h _ => rw [h]; simp
      | con j h _ _ h2 _ => rw [h2]; exact hl8 _ (List.getElem_mem h)
      | two a b _ h _ _ => rw [h]; simp
      | proj j m h e _ _ _ _ h2 _ => rw [h2]; simp
    omega
  · rw [stepF_no hxy]; simp
theorem rise_len {l A : List PI} {i : Nat} (h : l.Pairwise ltP) (hm : ∀ z ∈ l, ∃ k, k < i ∧ A[k]? = some z) {N : Nat} (hA : A.length ≤ N) : l.length ≤ N := by
  have h1 : l.Nodup := List.Pairwise.imp (fun {a b} hab e => by subst e; exact ltP_irrefl _ hab) h
  have h2 : l ⊆ A := fun z hz => by obtain ⟨k, _, hk⟩ := hm z hz; exact List.mem_of_getElem? hk
  exact Nat.le_trans (h1.length_le_of_subset h2) hA
theorem two_q {w w3 : World} {B : Nat} (q : Q w w3) (h : w.heap.size ≤ B) (u v : Value) : Q w ((w3.setCell ⟨B, 0, none⟩ u).setCell ⟨B, 1, none⟩ v) := (q.setCell (p := ⟨B, 0, none⟩) h u).setCell (p := ⟨B, 1, none⟩) h v
theorem addF_in {A ps : List PI} {k : Nat} (h : k < ps.length) (hm : ps[k] ∈ A) : addF A (ps.drop k) = addF A (ps.drop (k + 1)) := by rw [addF_at A ps k h, if_pos hm]
theorem addF_out {A ps : List PI} {k : Nat} (h : k < ps.length) (hm : ¬ ps[k] ∈ A) : addF A (ps.drop k) = addF (A ++ [ps[k]]) (ps.drop (k + 1)) := by rw [addF_at A ps k h, if_neg hm]
set_option maxRecDepth 100000 in
set_option maxHeartbeats 8000000 in
theorem refAll10_any (R A S : Option Addr) (nl cl n c m d : Nat) (L : List Sig) (ks : List (List Int)) (x y : Int) (w : World) (hnl : nl = L.length) (hr : Row w w.heap.size R L) (hn : n = ks.length) (hk : Keys w w.heap.size A ks) (hS : Store L ks) (hl8 : ∀ s ∈ L, s.2.size ≤ 8) (hks : ks.length ≤ 100) :
    Calls Try.prog 18 #[.slice R nl cl, .agg #[.slice A n c, .slice S m d], .int .i64 x, .int .i64 y] w (AllPost L ks (x, y) w) := by
  subst hnl hn
  obtain ⟨i0, hi, hz0, hz1, hz2⟩ := info_parts pairInfo
  have Hi := Lib.hid hi
  have Hz0 := Lib.hid hz0
  have Hz1 := Lib.hid hz1
  have Hz2 := Lib.hid hz2
  clear hi hz0 hz1 hz2
  have q0 := ((Q.refl w).alloc (Obj.cells #[Value.slice A ks.length c, Value.slice S m d] 26)).alloc (Obj.cells #[.int .i64 x, .int .i64 y] 46)
  have h1 := own_first (w.alloc (Obj.cells #[Value.slice A ks.length c, Value.slice S m d] 26)) x y
  rw [show (w.alloc (Obj.cells #[Value.slice A ks.length c, Value.slice S m d] 26)).heap.size = w.heap.size + 1 by simp] at h1
  have HO0 := Lib.hid h1
  have HT := Lib.hid ((BoxT.new w (Value.slice A ks.length c) (Value.slice S m d) 26).q ((Q.refl _).alloc (Obj.cells #[.int .i64 x, .int .i64 y] 46)))
  have CS : Hid (∀ U a b, Q w U → Calls Try.prog 13 #[.slice R L.length cl, .agg #[.slice A ks.length c, .slice S m d], .int .i64 a, .int .i64 b] U (WayPost (stepF L ks a b) U)) := fun U a b q => refStep10_any R A S L.length cl ks.length c m d L ks a b U rfl ((hr.keep q).more q.size) rfl ((hk.keep q).more q.size) hS hl8
  have HQ0 := Lib.hid q0
  have HS := Lib.hid hS
  have hsq : ks.length * ks.length ≤ 10000 := Nat.mul_le_mul hks hks
  have HSQ := Lib.hid hsq
  have HSL := Lib.hid (fun a b => step_len hS hl8 a b)
  clear h1 hk q0 hS hl8 hr hsq hks
  go_enter Try.func18, Try.ntmps18
  go_wp2_with fail
  generalize (w.alloc (Obj.cells #[Value.slice A ks.length c, Value.slice S m d] 26)).alloc (Obj.cells #[.int .i64 x, .int .i64 y] 46) = W1 at *
  go_loopw [10, 11, 12, 13] (fun u va vc iv wr => ∃ (i : Nat) (Al at' cl' : List PI) (v v1 v2 : Value), i ≤ Al.length ∧ iv = .int .i64 i ∧ v = u ∧ v1 = va ∧ v2 = vc ∧ Hid (AllI L ks (x, y) Al i at' cl') ∧ Hid (wr.ownsRow (w.heap.size + 1) 46 2 v Al.length (cellsQ Al)) ∧ Hid (wr.ownsRow (w.heap.size + 1) 46 2 v1 at'.length (cellsQ at')) ∧ Hid (wr.ownsRow (w.heap.size + 1) 46 2 v2 cl'.length (cellsQ cl')) ∧ Hid (Ap v1 v) ∧ Hid (Ap v2 v) ∧ Hid (Q w wr) ∧ Hid (BoxT wr w.heap.size (Value.slice A ks.length c) (Value.slice S m d))) (fun _ _ _ iv _ => 10001 - (intOf iv).toNat)
  case atStart => exact ⟨0, [(x, y)], [], [], _, _, _, Nat.zero_le _, rfl, rfl, rfl, rfl, Lib.hid (AllI.init _), HO0, Lib.hid (own_nil W1 _ _ _), Lib.hid (own_nil W1 _ _ _), Lib.hid (.inl rfl), Lib.hid (.inl rfl), HQ0, HT⟩
  case round =>
    obtain ⟨i, Al, at', cl', v, v1, v2, hil, rfl, rfl, rfl, rfl, HI, HO, HO1, HO2, HA1, HA2, HQ, HTr⟩ := hrel
    have hAl : Al.length ≤ 10001 := by have := HI.out.len HS.out; have := HSQ.out; omega
    obtain ⟨A1, c1, hv, _, hr1, hu1⟩ := own_open2 HO.out
    have HU1 := Lib.hid hu1
    clear HO0 HT HQ0 hu1
    by_cases hlt : i < Al.length
    · obtain ⟨ad, rfl, hadb, e0, e1⟩ := pair_at hr1 hlt
      have hn0 := HI.out.next (List.getElem?_eq_getElem hlt)
      have hln := hn0.len HS.out
      have HSQ' := HSQ.out
      generalize Al[i] = z at *
      obtain ⟨wy, hwy⟩ : ∃ wy, stepF L ks z.1 z.2 = wy := ⟨_, rfl⟩
      obtain ⟨at2, hat2⟩ : ∃ l, (if (stepF L ks z.1 z.2).1 = 2 then layP at' z else at') = l := ⟨_, rfl⟩
      obtain ⟨cl2, hcl2⟩ : ∃ l, (if (stepF L ks z.1 z.2).1 = 3 then layP cl' z else cl') = l := ⟨_, rfl⟩
      rw [hat2, hcl2, hwy] at hn0
      rw [hwy] at hln hat2 hcl2
      have HN := Lib.hid hn0
      have HLN := Lib.hid (show (addF Al wy.2).length ≤ 10001 by omega)
      have CSz : Hid (∀ U, Q wr U → Calls Try.prog 13 #[.slice R L.length cl, .agg #[.slice A ks.length c, .slice S m d], .int .i64 z.1, .int .i64 z.2] U (WayPost wy U)) := fun U q => by have := CS.out U z.1 z.2 (HQ.out.trans q); rw [hwy] at this; exact this
      have HAT := Lib.hid hat2
      have HWL : Hid (wy.2.length ≤ 18) := by have := HSL.out z.1 z.2; rw [hwy] at this; exact this
      have HCL := Lib.hid hcl2
      have HLA : Hid (at'.length ≤ 10001 ∧ cl'.length ≤ 10001) := by
        have h2 := HI.out
        exact ⟨rise_len h2.ra (fun z hz => (h2.ma z).1 hz |>.1) hAl, rise_len h2.rc (fun z hz => (h2.mc z).1 hz |>.1) hAl⟩
      have b0 := HTr.out.c0
      have b1 := HTr.out.c1
      have hbl := HTr.out.lt
      have hady : (ad.add (i * 2)).block < wr.heap.size := by rw [add_block]; exact hadb
      have j0 : (i : Int) < (Al.length : Int) := by omega
      have j1 : (0 : Int) ≤ (i : Int) := Int.natCast_nonneg _
      have j2 : decide ((i : Int) < (Al.length : Int)) = true := decide_eq_true j0
      clear hn0 hln hwy hat2 hcl2 hr1 HSQ'
      subst hv
      go_wp2_with fail
      go_cut [14] (CutW wr wy)
      case first =>
        go_region_held3 (fun w' => w'.cell? ⟨w.heap.size, 0, none⟩ = some (.slice A ks.length c) ∧ w'.cell? ⟨w.heap.size, 1, none⟩ = some (.slice S m d) ∧ w'.cell? (ad.add (i * 2)) = some (.int .i64 z.1) ∧ w'.cell? ⟨(ad.add (i * 2)).block, (ad.add (i * 2)).off + 1, none⟩ = some (.int .i64 z.2))
          (first
            | (with_reducible exact ⟨((two_q p3 (Nat.le_refl _) _ _).cell (p := ⟨w.heap.size, 0, none⟩) hbl).trans b0, ((two_q p3 (Nat.le_refl _) _ _).cell (p := ⟨w.heap.size, 1, none⟩) hbl).trans b1, ((two_q p3 (Nat.le_refl _) _ _).cell (p := ad.add (i * 2)) hady).trans e0, ((two_q p3 (Nat.le_refl _) _ _).cell (p := ⟨(ad.add (i * 2)).block, (ad.add (i * 2)).off + 1, none⟩) hady).trans e1⟩)
            | (with_reducible exact ⟨((p3.alloc _).cell (p := ⟨w.heap.size, 0, none⟩) hbl).trans b0, ((p3.alloc _).cell (p := ⟨w.heap.size, 1, none⟩) hbl).trans b1, ((p3.alloc _).cell (p := ad.add (i * 2)) hady).trans e0, ((p3.alloc _).cell (p := ⟨(ad.add (i * 2)).block, (ad.add (i * 2)).off + 1, none⟩) hady).trans e1⟩)
            | (with_reducible exact ⟨(p3.cell (p := ⟨w.heap.size, 0, none⟩) hbl).trans b0, (p3.cell (p := ⟨w.heap.size, 1, none⟩) hbl).trans b1, (p3.cell (p := ad.add (i * 2)) hady).trans e0, (p3.cell (p := ⟨(ad.add (i * 2)).block, (ad.add (i * 2)).off + 1, none⟩) hady).trans e1⟩)
            | go_keep)
          (first
            | (go_at_call 13; refine (CSz.out _ (by first | exact (Q.refl wr).drew | exact (Q.refl wr).drew.alloc _ | exact ((Q.refl wr).alloc _).drew)).mono ?_; rintro e w3 ⟨A3, c3, rfl, hr3, q3, hf3⟩; have HR3 := Lib.hid hr3; have HF3 := Lib.hid hf3; clear hr3 hf3; have p3 : Q wr w3 := (by first | exact (Q.refl wr).drew.trans q3 | exact ((Q.refl wr).drew.alloc _).trans q3 | exact ((Q.refl wr).alloc _).drew.trans q3); (first | (have bx : OwnC w3 wr.heap.size [.int .i64 0, .slice none 0 0] := (by first | exact (Ex.own_new8 wr.drew [.int .i64 0, .slice none 0 0] 33).q q3 | exact (Ex.own_new8 wr [.int .i64 0, .slice none 0 0] 33).q q3); obtain ⟨y0, y1⟩ := bx.2 0 _ rfl; obtain ⟨y2, y3⟩ := bx.2 1 _ rfl) | skip)))
        · go_wp2_with fail
          go_meet
          exact ⟨w3.heap.size, A3, c3, rfl, Ex.own_new8 w3 [.int .i64 wy.1, .slice A3 wy.2.length c3] 33, p3.size, HR3.out.q ((Q.refl w3).alloc _), fun ad h => HF3.out ad h, p3.alloc _⟩
        · go_wp2_with fail
          go_meet
          exact ⟨wr.heap.size, A3, c3, rfl, (bx.set (s := 0) (by simp) _).set (s := 1) (by simp) _, Nat.le_refl _, by have h := way_rds HR3.out (.int .i64 wy.1) (.slice A3 wy.2.length c3) (B := wr.heap.size) (fun ad h => by have := HF3.out ad h; simp at this; omega); rw [way_size]; exact h, fun ad h => by have := HF3.out ad h; exact Nat.le_trans (by simp) this, two_q p3 (Nat.le_refl _) _ _⟩
      case rest =>
        obtain ⟨wb, A3, c3, rfl, hB, hwb, hr3, hf3, qc⟩ := hcut
        have HUw : Hid (∀ g, (Value.slice (some ad) Al.length c1).ownBlock = some g → w.heap.size + 1 ≤ g ∧ g < wr.heap.size) := HU1
        have hBU : (Value.slice (some ad) Al.length c1).ownBlock ≠ some wb := fun e => by have := (HUw.out wb e).2; omega
        have hRU : ∀ ad', A3 = some ad' → (Value.slice (some ad) Al.length c1).ownBlock ≠ some ad'.block := fun ad' h e => by have := (HUw.out _ e).2; have := hf3 ad' h; omega
        have HBU := Lib.hid hBU
        have HRU := Lib.hid hRU
        have f0 := (qc.cell (p := ad.add (i * 2)) hady).trans e0
        have f1 := (qc.cell (p := ⟨(ad.add (i * 2)).block, (ad.add (i * 2)).off + 1, none⟩) hady).trans e1
        have HOc := Lib.hid (row_kept HO.out qc (Nat.le_refl _))
        have HO1c := Lib.hid (row_kept HO1.out qc (Nat.le_refl _))
        have HO2c := Lib.hid (row_kept HO2.out qc (Nat.le_refl _))
        have HQc := Lib.hid (HQ.out.trans qc)
        have HTc := Lib.hid (HTr.out.q qc)
        have HB := Lib.hid hB
        have HR3 := Lib.hid hr3
        have HSZ := Lib.hid qc.size
        have HADY := Lib.hid (Nat.lt_of_lt_of_le hady qc.size)
        obtain ⟨k0, k0f⟩ := hB.2 0 _ rfl
        clear hB hr3 hf3 hBU hRU e0 e1 b0 b1 hbl CSz HO HO1 HO2 hady HTr
        go_upto_if 42 with fail
        go_cut [11] (CutL wc (w.heap.size + 1) at2 (.slice (some ad) Al.length c1))
        case first =>
          by_cases k2 : wy.1 = 2
          · have d2 : (wy.1 == 2) = true := beq_iff_eq.2 k2
            have hl2 := HAT.out
            rw [if_pos k2] at hl2
            obtain ⟨A4, c4, hv4, hle4, hr4, hu4⟩ := own_open2 HO1c.out
            subst hv4
            have CL := Lib.hid (fun (U : World) (q : Q wc U) => refLayP_any A4 at'.length c4 at' z U rfl hle4 (hr4.q q) (by have := HLA.out; omega))
            have HUv := Lib.hid hu4
            clear hr4 hu4 k2
            go_wp2_with fail
            refine (CL.out _ (Q.refl _)).mono ?_
            rintro e w5 ⟨v5, rfl, own5, q5⟩
            have Own := Lib.hid own5
            clear own5
            go_wp2_with fail
            go_meet
            exact ⟨_, rfl, by rw [← hl2]; exact row_kept Own.out (Q.refl _) HTc.out.lt, ap_fresh (M := wc.heap.size) (fun g e => (Own.out.lt g e).1) (fun g e => Nat.lt_of_lt_of_le (HUw.out g e).2 HSZ.out), q5⟩
          · have d2 : (wy.1 == 2) = false := beq_eq_false_iff_ne.2 k2
            have hl2 := HAT.out
            rw [if_neg k2] at hl2
            clear k2
            go_wp2_with fail
            go_meet
            exact ⟨_, rfl, by rw [← hl2]; exact HO1c.out, HA1.out, Q.refl _⟩
        case rest =>
          obtain ⟨nv1, rfl, own1, ap1, qd⟩ := hcut
          have HO1d := Lib.hid own1
          have HA1d := Lib.hid ap1
          have HOd := Lib.hid (row_kept HOc.out qd (Nat.le_refl _))
          have HO2d := Lib.hid (row_kept HO2c.out qd (Nat.le_refl _))
          have HQd := Lib.hid (HQc.out.trans qd)
          have HTd := Lib.hid (HTc.out.q qd)
          have HBd := Lib.hid (HB.out.q qd)
          have HR3d := Lib.hid (HR3.out.q qd)
          have HSZd := Lib.hid (Nat.le_trans HSZ.out qd.size)
          have g0 := (qd.cell (p := ad.add (i * 2)) HADY.out).trans f0
          have g1 := (qd.cell (p := ⟨(ad.add (i * 2)).block, (ad.add (i * 2)).off + 1, none⟩) HADY.out).trans f1
          have HADd := Lib.hid (Nat.lt_of_lt_of_le HADY.out qd.size)
          obtain ⟨k1, k1f⟩ := HBd.out.2 0 _ rfl
          clear own1 ap1 qd k0 k0f f0 f1 HOc HO1c HO2c HQc HTc HB HR3 HSZ HADY
          go_upto_if 51 with fail
          go_cut [12] (CutL wc (w.heap.size + 1) cl2 (.slice (some ad) Al.length c1))
          case first =>
            by_cases k2 : wy.1 = 3
            · have d2 : (wy.1 == 3) = true := beq_iff_eq.2 k2
              have hl2 := HCL.out
              rw [if_pos k2] at hl2
              obtain ⟨A4, c4, hv4, hle4, hr4, hu4⟩ := own_open2 HO2d.out
              subst hv4
              have CL := Lib.hid (fun (U : World) (q : Q wc U) => refLayP_any A4 cl'.length c4 cl' z U rfl hle4 (hr4.q q) (by have := HLA.out; omega))
              have HUv := Lib.hid hu4
              clear hr4 hu4 k2
              go_wp2_with fail
              refine (CL.out _ (Q.refl _)).mono ?_
              rintro e w5 ⟨v5, rfl, own5, q5⟩
              have Own := Lib.hid own5
              clear own5
              go_wp2_with fail
              go_meet
              exact ⟨_, rfl, by rw [← hl2]; exact row_kept Own.out (Q.refl _) HTd.out.lt, ap_fresh (M := wc.heap.size) (fun g e => (Own.out.lt g e).1) (fun g e => Nat.lt_of_lt_of_le (HUw.out g e).2 HSZd.out), q5⟩
            · have d2 : (wy.1 == 3) = false := beq_eq_false_iff_ne.2 k2
              have hl2 := HCL.out
              rw [if_neg k2] at hl2
              clear k2
              go_wp2_with fail
              go_meet
              exact ⟨_, rfl, by rw [← hl2]; exact HO2d.out, HA2.out, Q.refl _⟩
          case rest =>
            obtain ⟨nv2, rfl, own2, ap2, qe⟩ := hcut
            have HO2e := Lib.hid own2
            have HA2e := Lib.hid ap2
            have HOe := Lib.hid (row_kept HOd.out qe (Nat.le_refl _))
            have HO1e := Lib.hid (row_kept HO1d.out qe (Nat.le_refl _))
            have HQe := Lib.hid (HQd.out.trans qe)
            have HTe := Lib.hid (HTd.out.q qe)
            have HBe := Lib.hid (HBd.out.q qe)
            have HR3e := Lib.hid (HR3d.out.q qe)
            clear own2 ap2 qe k1 k1f g0 g1 HOd HO1d HO2d HQd HTd HBd HR3d HSZd HADd
            go_wp2_with fail
            go_loopw [10, 15] (fun u kv wx => ∃ (k : Nat) (A2 : List PI) (v : Value), k ≤ wy.2.length ∧ kv = .int .i64 k ∧ v = u ∧ Hid (addF Al wy.2 = addF A2 (wy.2.drop k)) ∧ Hid (wx.ownsRow (w.heap.size + 1) 46 2 v A2.length (cellsQ A2)) ∧ Hid (wx.ownsRow (w.heap.size + 1) 46 2 nv1 at2.length (cellsQ at2)) ∧ Hid (wx.ownsRow (w.heap.size + 1) 46 2 nv2 cl2.length (cellsQ cl2)) ∧ Hid (Ap nv1 v) ∧ Hid (Ap nv2 v) ∧ Hid (OwnC wx wb [.int .i64 wy.1, .slice A3 wy.2.length c3]) ∧ Hid (v.ownBlock ≠ some wb) ∧ Hid (Rds wx wx.heap.size A3 (cellsQ wy.2)) ∧ Hid (∀ ad, A3 = some ad → v.ownBlock ≠ some ad.block) ∧ Hid (Q w wx) ∧ Hid (BoxT wx w.heap.size (Value.slice A ks.length c) (Value.slice S m d))) (fun _ kv _ => wy.2.length - (intOf kv).toNat)
            case atStart => exact ⟨0, Al, _, Nat.zero_le _, rfl, rfl, Lib.hid (by simp), HOe, HO1e, HO2e, HA1d, HA2e, HBe, HBU, HR3e, HRU, HQe, HTe⟩
            case round =>
              obtain ⟨k, A2, v, hk, rfl, rfl, HD, HOi, HO1i, HO2i, HA1i, HA2i, HBi, HBU2, HRi, HRU2, HQi, HTi⟩ := hrel
              obtain ⟨t1, t1f⟩ := HBi.out.2 1 _ rfl
              have hwl := HWL.out
              clear HOe HO1e HO2e HBe HR3e HQe HTe
              by_cases hkl : k < wy.2.length
              · obtain ⟨ad3, rfl, had3, x0, x1⟩ := pair_at HRi.out hkl
                have hA2 : A2.length ≤ 10001 := by have h1 := HLN.out; rw [HD.out] at h1; exact Nat.le_trans (addF_ge _ _) h1
                obtain ⟨A5, c5, hv5, _, hr5, hu5⟩ := own_open2 HOi.out
                have CI := Lib.hid (refIn10_any A5 A2.length c5 A2 wy.2[k] wr rfl hr5 (by omega))
                have hadl : (ad3.add (k * 2)).block < wr.heap.size := by rw [add_block]; exact had3
                have i0' : (k : Int) < (wy.2.length : Int) := by omega
                have i1' : (0 : Int) ≤ (k : Int) := Int.natCast_nonneg _
                have i2' : decide ((k : Int) < (wy.2.length : Int)) = true := decide_eq_true i0'
                by_cases hm : wy.2[k] ∈ A2
                · have HD2 := Lib.hid (HD.out.trans (addF_in hkl hm))
                  rw [decide_eq_true hm] at CI
                  have HK := Lib.hid hkl
                  clear hm HD hr5 hu5
                  generalize wy.2[k] = qq at *
                  subst hv5
                  go_wp2_with fail
                  refine CI.out.mono ?_
                  rintro e w6 ⟨rfl, q6⟩
                  have Q6 : Hid (Q wr w6) := q6
                  clear q6
                  go_wp2_with fail
                  go_roundw
                  case rel => exact ⟨k + 1, A2, _, HK.out, by have := HK.out; have := HWL.out; go_num, rfl, HD2, row_kept HOi.out Q6.out (Nat.le_refl _), row_kept HO1i.out Q6.out (Nat.le_refl _), row_kept HO2i.out Q6.out (Nat.le_refl _), HA1i, HA2i, HBi.out.q Q6.out, HBU2, HRi.out.q Q6.out, HRU2, HQi.out.trans Q6.out, HTi.out.q Q6.out⟩
                  case measure => have := HK.out; have := HWL.out; simp [intOf]; omega
                · have HD2 := Lib.hid (HD.out.trans (addF_out hkl hm))
                  have hA3 : A2.length + 1 ≤ 10001 := by have h1 := HLN.out; rw [HD2.out] at h1; have := Nat.le_trans (addF_ge _ _) h1; rw [List.length_append] at this; exact this
                  rw [decide_eq_false hm] at CI
                  have HK := Lib.hid hkl
                  clear hm HD hr5 hu5
                  generalize wy.2[k] = qq at *
                  subst hv5
                  go_wp2_with fail
                  refine CI.out.mono ?_
                  rintro e w6 ⟨rfl, q6⟩
                  have Qa : Hid (Q wr (w6.alloc (Obj.cells #[.int .i64 qq.1, .int .i64 qq.2] 46))) := Q.alloc q6 _
                  have HOa := Lib.hid (row_kept HOi.out Qa.out (Nat.le_refl _))
                  have HO1a := Lib.hid (row_kept HO1i.out Qa.out (Nat.le_refl _))
                  have HO2a := Lib.hid (row_kept HO2i.out Qa.out (Nat.le_refl _))
                  have HSa := Lib.hid (src_alloc w6 [.int .i64 qq.1, .int .i64 qq.2] 46 (0, 0))
                  have HQa := Lib.hid (HQi.out.trans Qa.out)
                  have HTa := Lib.hid (HTi.out.q Qa.out)
                  have HBa := Lib.hid (HBi.out.q Qa.out)
                  have HRa := Lib.hid (HRi.out.q Qa.out)
                  have HLa := Lib.hid (Nat.lt_of_lt_of_le had3 Qa.out.size)
                  replace x0 := (q6.cell (p := ad3.add (k * 2)) hadl).trans x0
                  replace x1 := (q6.cell (p := ⟨(ad3.add (k * 2)).block, (ad3.add (k * 2)).off + 1, none⟩) hadl).trans x1
                  have t6 := ((HBi.out.q q6).2 1 _ rfl).1
                  clear t1 t1f q6 CI
                  go_wp2_with (at_builtin; refine wpList_append_src _ rfl (.tmp 74) (.tmp 80) _ rfl (w.heap.size + 1) 46 i0 _ 2 16 Try.underlying31 Hi.out Hz0.out Hz1.out Hz2.out rfl (by omega) (.slice A5 A2.length c5) A2.length (cellsQ A2) rfl HOa.out _ 1 1 [.int .i64 qq.1, .int .i64 qq.2] rfl rfl HSa.out (by simp [Value.oneCell']) (by unfold maxLen; omega) (by omega) HTa.out.lt ?_; intro v7 w7 own7 gr7 hor7; have Own7 := Lib.hid own7; have Gr7 := Lib.hid gr7; have Or7 := Lib.hid hor7; clear own7 gr7 hor7)
                  go_roundw
                  case rel => exact ⟨k + 1, A2 ++ [qq], v7, HK.out, by have := HK.out; have := HWL.out; go_num, rfl, HD2, by rw [List.length_append, cellsQ_append]; exact Own7.out, HO1a.out.kept Gr7.out HA1i.out, HO2a.out.kept Gr7.out HA2i.out, ap_new (fun g e => (HO1a.out.lt g e).2) Or7.out (Nat.le_refl _) HA1i.out, ap_new (fun g e => (HO2a.out.lt g e).2) Or7.out (Nat.le_refl _) HA2i.out, HBa.out.grown Gr7.out HBU2.out, ne_new HBU2.out Or7.out HBa.out.1, rds_row HRa.out Gr7.out (fun ad h => HRU2.out ad h), Lib.hid (fun ad h => ne_new (HRU2.out ad h) Or7.out (by injection h with h; subst h; exact HLa.out)), Below.grown HQa.out Gr7.out HQa.out.size (fun k e => Nat.le_of_succ_le (HOa.out.lt k e).1), boxT_grown HTa.out Gr7.out (fun e => by have := (HOa.out.lt _ e).1; omega)⟩
                  case measure => have := HK.out; have := HWL.out; simp [intOf]; omega
              · have HDe : Hid (addF Al wy.2 = A2) := by
                  unfold Hid
                  rw [HD.out, addF_end A2 wy.2 k (by omega)]
                have i2' : decide ((k : Int) < (wy.2.length : Int)) = false := decide_eq_false (by omega)
                have hA2 : Al.length ≤ A2.length := by rw [← HDe.out]; exact addF_ge _ _
                go_wp2_with fail
                go_roundw
                case rel => exact ⟨i + 1, A2, at2, cl2, v, nv1, nv2, by omega, by go_num, rfl, rfl, rfl, Lib.hid (by rw [← HDe.out]; exact HN.out), HOi, HO1i, HO2i, HA1i, HA2i, HQi, HTi⟩
                case measure => simp [intOf]; omega
    · have hix : i = Al.length := by omega
      subst hix
      obtain ⟨ea, ec⟩ := HI.out.end_
      have EA := Lib.hid ea
      have EC := Lib.hid ec
      obtain ⟨A4, c4, rfl, _, hr4, _⟩ := own_open2 HO1.out
      obtain ⟨A5, c5, rfl, _, hr5, _⟩ := own_open2 HO2.out
      have j2 : decide ((Al.length : Int) < (Al.length : Int)) = false := decide_eq_false (by omega)
      clear ea ec
      subst hv
      go_wp2_with fail
      go_ret2
      exact ⟨A4, c4, A5, c5, by rw [← EA.out, ← EC.out]; rfl, by rw [← EA.out]; exact hr4, by rw [← EC.out]; exact hr5, HQ.out⟩
end Go.Proofs.Ytjehccemilefgaa.St

namespace Go.Proofs.Ytjehccemilefgaa.St
open Go.RowKit Kit Rw
open Go.Proofs.Ytjehccemilefgaa.Sg (Sig Row)
def pairsA (a t : PI) (v : UInt8) : List PI := (if v ≠ 45 then [a] else []) ++ (if v ≠ 43 then [t] else [])
set_option maxRecDepth 100000 in
set_option maxHeartbeats 2000000 in
theorem varied10_any (base : Nat) (o : List PI) (u : Value) (v : UInt8) (a t : PI) (w : World) (ho : w.ownsRow base 46 2 u o.length (cellsQ o)) (hb : base ≤ w.heap.size) (hl : o.length ≤ 1000000) :
    Calls Try.prog 71 #[u, .int .u8 (v.toNat : Int), .agg #[.int .i64 a.1, .int .i64 a.2], .agg #[.int .i64 t.1, .int .i64 t.2]] w (RowQ base (o ++ pairsA a t v) w) := by
  obtain ⟨i0, hi, hz0, hz1, hz2⟩ := info_parts pairInfo
  have Hi := Lib.hid hi
  have Hz0 := Lib.hid hz0
  have Hz1 := Lib.hid hz1
  have Hz2 := Lib.hid hz2
  clear hi hz0 hz1 hz2
  obtain ⟨a0, a1⟩ := a
  obtain ⟨t0, t1⟩ := t
  have e45 : ((v.toNat : Int) == 45) = decide (v = 45) := Ex.byte_is v 45 (by decide)
  have e43 : ((v.toNat : Int) == 43) = decide (v = 43) := Ex.byte_is v 43 (by decide)
  have qa := ((Q.refl w).alloc (Obj.cells #[.int .i64 a0, .int .i64 a1] 46)).alloc (Obj.cells #[.int .i64 t0, .int .i64 t1] 46)
  have HO := Lib.hid (row_kept ho qa (Nat.le_refl _))
  have HQ := Lib.hid (qa.mono hb)
  have hbW := Nat.le_trans hb qa.size
  have oa := (Ex.own_new8 w [.int .i64 a0, .int .i64 a1] 46).q ((Q.refl _).alloc (Obj.cells #[.int .i64 t0, .int .i64 t1] 46))
  have ot := Ex.own_new8 (w.alloc (Obj.cells #[.int .i64 a0, .int .i64 a1] 46)) [.int .i64 t0, .int .i64 t1] 46
  rw [show (w.alloc (Obj.cells #[.int .i64 a0, .int .i64 a1] 46)).heap.size = w.heap.size + 1 by simp] at ot
  have HOA := Lib.hid oa
  have HOT := Lib.hid ot
  clear ho qa oa ot
  by_cases h43 : v = 43
  · rw [decide_eq_true h43] at e43
    have HR : Hid (pairsA (a0, a1) (t0, t1) v = [(a0, a1)]) := by unfold Hid; rw [h43]; rfl
    clear e45 h43
    generalize (v.toNat : Int) = vv at *
    go_enter Try.func71, Try.ntmps71
    go_upto_region 3 with fail
    generalize (w.alloc (Obj.cells #[.int .i64 a0, .int .i64 a1] 46)).alloc (Obj.cells #[.int .i64 t0, .int .i64 t1] 46) = W at *
    obtain ⟨x0, _⟩ := HOA.out.2 0 _ rfl
    obtain ⟨x1, _⟩ := HOA.out.2 1 _ rfl
    have HO1 := Lib.hid (row_kept HO.out ((Q.refl W).alloc (Obj.cells #[.int .i64 a0, .int .i64 a1] 46)) (Nat.le_refl _))
    have HB1 := Lib.hid (HQ.out.alloc hbW (Obj.cells #[.int .i64 a0, .int .i64 a1] 46))
    have hb1 : base ≤ (W.alloc (Obj.cells #[.int .i64 a0, .int .i64 a1] 46)).heap.size := Nat.le_trans hbW ((Q.refl W).alloc _).size
    have HS1 := Lib.hid (src_alloc W [.int .i64 a0, .int .i64 a1] 46 (0, 0))
    go_wp2_with (at_builtin; refine wpList_append_src _ rfl (.tmp 12) (.tmp 14) _ rfl base 46 i0 _ 2 16 Try.underlying31 Hi.out Hz0.out Hz1.out Hz2.out rfl (by omega) u o.length (cellsQ o) rfl HO1.out (some ⟨W.heap.size, 0, none⟩) 1 1 [.int .i64 a0, .int .i64 a1] rfl rfl HS1.out (by simp [Value.oneCell']) (by unfold maxLen; omega) (by omega) hb1 ?_; intro v' w' own' gr' _; have Own := Lib.hid own'; have HQ' : Hid (Below base w w') := Below.grown HB1.out gr' hb1 (fun k e => (HO1.out.lt k e).1); clear own' gr')
    go_ret
    exact ⟨v', rfl, by rw [HR.out, List.length_append, cellsQ_append]; exact Own.out, HQ'.out⟩
  · rw [decide_eq_false h43] at e43
    by_cases h45 : v = 45
    · rw [decide_eq_true h45] at e45
      have HR : Hid (pairsA (a0, a1) (t0, t1) v = [(t0, t1)]) := by unfold Hid; rw [h45]; rfl
      clear h43 h45
      generalize (v.toNat : Int) = vv at *
      go_enter Try.func71, Try.ntmps71
      go_upto_region 5 with fail
      generalize (w.alloc (Obj.cells #[.int .i64 a0, .int .i64 a1] 46)).alloc (Obj.cells #[.int .i64 t0, .int .i64 t1] 46) = W at *
      obtain ⟨x0, _⟩ := HOT.out.2 0 _ rfl
      obtain ⟨x1, _⟩ := HOT.out.2 1 _ rfl
      have HO1 := Lib.hid (row_kept HO.out ((Q.refl W).alloc (Obj.cells #[.int .i64 t0, .int .i64 t1] 46)) (Nat.le_refl _))
      have HB1 := Lib.hid (HQ.out.alloc hbW (Obj.cells #[.int .i64 t0, .int .i64 t1] 46))
      have hb1 : base ≤ (W.alloc (Obj.cells #[.int .i64 t0, .int .i64 t1] 46)).heap.size := Nat.le_trans hbW ((Q.refl W).alloc _).size
      have HS1 := Lib.hid (src_alloc W [.int .i64 t0, .int .i64 t1] 46 (0, 0))
      go_wp2_with (at_builtin; refine wpList_append_src _ rfl (.tmp 18) (.tmp 20) _ rfl base 46 i0 _ 2 16 Try.underlying31 Hi.out Hz0.out Hz1.out Hz2.out rfl (by omega) u o.length (cellsQ o) rfl HO1.out (some ⟨W.heap.size, 0, none⟩) 1 1 [.int .i64 t0, .int .i64 t1] rfl rfl HS1.out (by simp [Value.oneCell']) (by unfold maxLen; omega) (by omega) hb1 ?_; intro v' w' own' gr' _; have Own := Lib.hid own'; have HQ' : Hid (Below base w w') := Below.grown HB1.out gr' hb1 (fun k e => (HO1.out.lt k e).1); clear own' gr')
      go_ret
      exact ⟨v', rfl, by rw [HR.out, List.length_append, cellsQ_append]; exact Own.out, HQ'.out⟩
    · rw [decide_eq_false h45] at e45
      have HR : Hid (pairsA (a0, a1) (t0, t1) v = [(a0, a1), (t0, t1)]) := by unfold Hid pairsA; rw [if_pos h45, if_pos h43]; rfl
      clear h43 h45
      generalize (v.toNat : Int) = vv at *
      go_enter Try.func71, Try.ntmps71
      go_upto_region 6 with fail
      generalize (w.alloc (Obj.cells #[.int .i64 a0, .int .i64 a1] 46)).alloc (Obj.cells #[.int .i64 t0, .int .i64 t1] 46) = W at *
      obtain ⟨x0, _⟩ := HOA.out.2 0 _ rfl
      obtain ⟨x1, _⟩ := HOA.out.2 1 _ rfl
      obtain ⟨y0, _⟩ := HOT.out.2 0 _ rfl
      obtain ⟨y1, _⟩ := HOT.out.2 1 _ rfl
      have HO1 := Lib.hid (row_kept HO.out ((Q.refl W).alloc (Obj.cells #[.int .i64 a0, .int .i64 a1, .int .i64 t0, .int .i64 t1] 46)) (Nat.le_refl _))
      have HB1 := Lib.hid (HQ.out.alloc hbW (Obj.cells #[.int .i64 a0, .int .i64 a1, .int .i64 t0, .int .i64 t1] 46))
      have hb1 : base ≤ (W.alloc (Obj.cells #[.int .i64 a0, .int .i64 a1, .int .i64 t0, .int .i64 t1] 46)).heap.size := Nat.le_trans hbW ((Q.refl W).alloc _).size
      have HS1 := Lib.hid (src_alloc W [.int .i64 a0, .int .i64 a1, .int .i64 t0, .int .i64 t1] 46 (0, 0))
      go_wp2_with (at_builtin; refine wpList_append_src _ rfl (.tmp 22) (.tmp 25) _ rfl base 46 i0 _ 2 16 Try.underlying31 Hi.out Hz0.out Hz1.out Hz2.out rfl (by omega) u o.length (cellsQ o) rfl HO1.out (some ⟨W.heap.size, 0, none⟩) 2 2 [.int .i64 a0, .int .i64 a1, .int .i64 t0, .int .i64 t1] rfl rfl HS1.out (by simp [Value.oneCell']) (by unfold maxLen; omega) (by omega) hb1 ?_; intro v' w' own' gr' _; have Own := Lib.hid own'; have HQ' : Hid (Below base w w') := Below.grown HB1.out gr' hb1 (fun k e => (HO1.out.lt k e).1); clear own' gr')
      go_ret
      exact ⟨v', rfl, by rw [HR.out, List.length_append, cellsQ_append]; exact Own.out, HQ'.out⟩
end Go.Proofs.Ytjehccemilefgaa.St
