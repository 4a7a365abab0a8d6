/-
  What the proofs lean on, part 10 of 10.
-/
import Derived.Test.YtjgbheidkjgncaaPh
namespace Go.Proofs.Ytjgbheidkjgncaa.St
open Go.RowKit Kit Rw

theorem slice_from (A : Option Addr) (n c a : Nat) (ha : a ≤ n) (hn : n ≤ c) : ∃ A', (∀ u : World, (Instr.slice 22 (.slice A n c) (some (.int .i64 (a : Int))) none none).run Try.prog u = .ok (.slice A' (n - a) (c - a)) u) ∧ (a < n → A' = A.map fun ad => ad.add (a * 2)) := by
  obtain ⟨i0, hi, hz0, hz1, hz2⟩ := info_parts pairInfo
  by_cases h : a < n
  · refine ⟨A.map fun ad => ad.add (a * 2), fun u => ?_, fun _ => rfl⟩
    simp [Instr.slice, run_underlying Try.underlying22, Instr.sliceBounds, Instr.sliceBound, asIntOf, sizeOf, typeInfo, hi, hz1, ha, Addr.add]
    intro h
    omega
  · obtain rfl : a = n := by omega
    by_cases hc : c - a = 0
    · refine ⟨A, fun u => ?_, fun h => absurd h (by omega)⟩
      simp [Instr.slice, run_underlying Try.underlying22, Instr.sliceBounds, Instr.sliceBound, asIntOf, sizeOf, typeInfo, hi, hz1, Addr.add]
      intro h
      omega
    · refine ⟨A.map fun ad => ad.add (a * 2), fun u => ?_, fun h => absurd h (by omega)⟩
      simp [Instr.slice, run_underlying Try.underlying22, Instr.sliceBounds, Instr.sliceBound, asIntOf, sizeOf, typeInfo, hi, hz1, Addr.add]
      intro h
      omega
theorem cellsQ_drop : ∀ (l : List PI) (a : Nat), cellsQ (l.drop a) = (cellsQ l).drop (a * 2)
  | _, 0 => rfl
  | [], a + 1 => by simp [cellsQ]
  | x :: l, a + 1 => by
    rw [List.drop_succ_cons, cellsQ_drop l a, show (a + 1) * 2 = a * 2 + 1 + 1 by omega]
    rfl
theorem add_add (ad : Addr) (i j : Nat) : (ad.add i).add j = ad.add (i + j) := by
  unfold Addr.add
  by_cases h : i = 0 <;> by_cases h' : j = 0 <;> simp [h, h', Nat.add_assoc]
theorem src_from {w : World} {B : Nat} {A A' : Option Addr} {l : List PI} (h : Rds w B A (cellsQ l)) {a : Nat} (hA : a < l.length → A' = A.map fun ad => ad.add (a * 2)) : Src w A' (cellsQ (l.drop a)) := fun h0 => by
  rw [cellsQ_len, List.length_drop] at h0
  obtain ⟨ad, e, hb, hc⟩ := h (by rw [cellsQ_len]; omega)
  rw [hA (by omega), e]
  refine ⟨_, rfl, fun j v hv => ?_⟩
  rw [cellsQ_drop, List.getElem?_drop] at hv
  rw [add_add]
  exact hc _ v hv
theorem cutP_at : ∀ (l : List PI) (p : PI) (k : Nat), k < l.length → k ≤ cutP l p → (ltP (l[k]?.getD (0, 0)) p ↔ k < cutP l p)
  | [], _, _, h, _ => by simp at h
  | a :: l, p, 0, _, _ => by
    unfold cutP
    by_cases h : ltP a p
    · rw [if_pos h]; simp [h]
    · rw [if_neg h]; simp [h]
  | a :: l, p, k + 1, h, h2 => by
    unfold cutP at h2 ⊢
    by_cases hh : ltP a p
    · rw [if_pos hh] at h2 ⊢
      have := cutP_at l p k (by simpa using h) (by omega)
      rw [List.getElem?_cons_succ, this]
      omega
    · rw [if_neg hh] at h2; omega
def LayPost (l : List PI) (w : World) (e : Ending) (w' : World) : Prop := ∃ v, e = .returned v ∧ w'.ownsRow w.heap.size 30 2 v l.length (cellsQ l) ∧ Q w w'
set_option maxRecDepth 100000 in
set_option maxHeartbeats 4000000 in
theorem refLayP_any (A : Option Addr) (n c : Nat) (l : List PI) (p : PI) (w : World) (hn : n = l.length) (hc : l.length ≤ c) (hr : Rds w w.heap.size A (cellsQ l)) (hl : l.length ≤ 1000000) :
    Calls Try.prog 17 #[.slice A n c, .agg #[.int .i64 p.1, .int .i64 p.2]] w (LayPost (layP l p) w) := by
  subst hn
  obtain ⟨i0, hi, hz0, hz1, hz2⟩ := info_parts pairInfo
  have Hi := Lib.hid hi
  have Hz0 := Lib.hid hz0
  have Hz1 := Lib.hid hz1
  have Hz2 := Lib.hid hz2
  clear hi hz0 hz1 hz2
  have q0 := (Q.refl w).alloc (Obj.cells #[.int .i64 p.1, .int .i64 p.2] 30)
  have HR := Lib.hid (hr.q q0)
  have HB := Lib.hid (Ex.own_new8 w [.int .i64 p.1, .int .i64 p.2] 30)
  have HQ0 := Lib.hid q0
  clear hr q0
  go_enter Try.func17, Try.ntmps17
  go_wp2_with fail
  generalize w.alloc (Obj.cells #[.int .i64 p.1, .int .i64 p.2] 30) = W0 at *
  go_loopw [5, 6] (fun u iv wr => ∃ (k : Nat) (v : Value), k ≤ l.length ∧ iv = .int .i64 k ∧ v = u ∧ Hid (k ≤ cutP l p) ∧ Hid (wr.ownsRow W0.heap.size 30 2 v k (cellsQ (l.take k))) ∧ Hid (Q W0 wr)) (fun _ iv _ => l.length - (intOf iv).toNat)
  case atStart => exact ⟨0, _, Nat.zero_le _, rfl, rfl, Lib.hid (Nat.zero_le _), Lib.hid (own_nil W0 _ _ _), Lib.hid (Q.refl W0)⟩
  case round =>
    obtain ⟨k, v, hk, rfl, rfl, HC, HO, HQ⟩ := hrel
    have b0 := ((HB.out.q HQ.out).2 0 _ rfl).1
    have b1 := ((HB.out.q HQ.out).2 1 _ rfl).1
    have j0 : (0 : Int) ≤ (k : Int) := Int.natCast_nonneg _
    by_cases hlt : k < l.length
    · obtain ⟨ad, rfl, hb, c0, c1⟩ := pair_at (HR.out.q HQ.out) hlt
      have hcut := cutP_at l p k hlt HC.out
      rw [List.getElem?_eq_getElem hlt, Option.getD_some] at hcut
      have j1 : (k : Int) < (l.length : Int) := by omega
      have HTk : Hid (l.take (k + 1) = l.take k ++ [l[k]]) := Lib.hid (by rw [List.take_succ_eq_append_getElem hlt])
      generalize hz : l[k] = z at *
      by_cases h1 : z.1 < p.1
      · have d1 : decide (z.1 < p.1) = true := decide_eq_true h1
        have HC2 := Lib.hid (hcut.1 (.inl h1))
        clear hcut
        go_wp2_with fail
        go_quiet (fail)
        have Qwq := Lib.hid (HQ.out.drewN nq)
        have Owq := Lib.hid (row_kept HO.out ((Q.refl wr).drewN nq) (Nat.le_refl _))
        clear HQ HO b0 b1
        generalize wr.drewN nq = wq at *
        have b0 := ((HB.out.q Qwq.out).2 0 _ rfl).1
        have b1 := ((HB.out.q Qwq.out).2 1 _ rfl).1
        clear c0 c1
        obtain ⟨ady, ey, _, c0, c1⟩ := pair_at (HR.out.q Qwq.out) hlt
        injection ey with ey
        subst ey
        rw [hz] at c0 c1
        clear hz b0 b1
        have HQE := Lib.hid (Qwq.out.alloc (Obj.cells #[.int .i64 z.1, .int .i64 z.2] 30))
        have HOE := Lib.hid (row_kept Owq.out ((Q.refl wq).alloc (Obj.cells #[.int .i64 z.1, .int .i64 z.2] 30)) (Nat.le_refl _))
        have HSE := Lib.hid (src_alloc wq [.int .i64 z.1, .int .i64 z.2] 30 (0, 0))
        go_wp2_with (at_builtin; refine wpList_append_src _ rfl (.tmp 41) (.tmp 46) _ rfl W0.heap.size 30 i0 _ 2 16 Try.underlying22 Hi.out Hz0.out Hz1.out Hz2.out rfl (by omega) v k (cellsQ (l.take k)) rfl HOE.out (some ⟨wq.heap.size, 0, none⟩) 1 1 [.int .i64 z.1, .int .i64 z.2] rfl rfl HSE.out (by simp [Value.oneCell']) (by unfold maxLen; omega) (by omega) HQE.out.size ?_; intro vb wb ownb grb _; have Ob := Lib.hid ownb; have Qb : Hid (Q W0 wb) := Below.grown HQE.out grb HQE.out.size (fun k e => ((HOE.out).lt k e).1); clear ownb grb)
        go_roundw
        case rel => exact ⟨k + 1, vb, by omega, by go_num, rfl, HC2, by rw [HTk.out, cellsQ_append]; exact Ob, Qb⟩
        case measure => simp [intOf]; omega
      · have d1 : decide (z.1 < p.1) = false := decide_eq_false h1
        by_cases h2 : z.1 = p.1
        · have d2 : (z.1 == p.1) = true := beq_iff_eq.2 h2
          by_cases h3 : z.2 < p.2
          · have d3 : decide (z.2 < p.2) = true := decide_eq_true h3
            have HC2 := Lib.hid (hcut.1 (.inr ⟨h2, h3⟩))
            clear h2
            clear hcut
            go_wp2_with fail
            go_quiet (fail)
            have Qwq := Lib.hid (HQ.out.drewN nq)
            have Owq := Lib.hid (row_kept HO.out ((Q.refl wr).drewN nq) (Nat.le_refl _))
            clear HQ HO b0 b1
            generalize wr.drewN nq = wq at *
            have b0 := ((HB.out.q Qwq.out).2 0 _ rfl).1
            have b1 := ((HB.out.q Qwq.out).2 1 _ rfl).1
            clear c0 c1
            obtain ⟨ady, ey, _, c0, c1⟩ := pair_at (HR.out.q Qwq.out) hlt
            injection ey with ey
            subst ey
            rw [hz] at c0 c1
            clear hz b0 b1
            have HQE := Lib.hid (Qwq.out.alloc (Obj.cells #[.int .i64 z.1, .int .i64 z.2] 30))
            have HOE := Lib.hid (row_kept Owq.out ((Q.refl wq).alloc (Obj.cells #[.int .i64 z.1, .int .i64 z.2] 30)) (Nat.le_refl _))
            have HSE := Lib.hid (src_alloc wq [.int .i64 z.1, .int .i64 z.2] 30 (0, 0))
            go_wp2_with (at_builtin; refine wpList_append_src _ rfl (.tmp 41) (.tmp 46) _ rfl W0.heap.size 30 i0 _ 2 16 Try.underlying22 Hi.out Hz0.out Hz1.out Hz2.out rfl (by omega) v k (cellsQ (l.take k)) rfl HOE.out (some ⟨wq.heap.size, 0, none⟩) 1 1 [.int .i64 z.1, .int .i64 z.2] rfl rfl HSE.out (by simp [Value.oneCell']) (by unfold maxLen; omega) (by omega) HQE.out.size ?_; intro vb wb ownb grb _; have Ob := Lib.hid ownb; have Qb : Hid (Q W0 wb) := Below.grown HQE.out grb HQE.out.size (fun k e => ((HOE.out).lt k e).1); clear ownb grb)
            go_roundw
            case rel => exact ⟨k + 1, vb, by omega, by go_num, rfl, HC2, by rw [HTk.out, cellsQ_append]; exact Ob, Qb⟩
            case measure => simp [intOf]; omega
          · have d3 : decide (z.2 < p.2) = false := decide_eq_false h3
            have hno : ¬ ltP z p := by unfold ltP; omega
            clear h2
            have hck : cutP l p = k := by
              have := HC.out
              rcases Nat.lt_or_ge k (cutP l p) with h | h
              · exact absurd (hcut.2 h) hno
              · omega
            have e6 : ((k : Int) == (l.length : Int)) = false := beq_eq_false_iff_ne.2 (by omega)
            have HE' := fun w => run_neq_pair w z p
            have hlk : l[k]? = some z := by rw [List.getElem?_eq_getElem hlt, hz]
            have HL0 := layP_cut p l
            rw [hck, hlk] at HL0
            clear hcut hno hck hlk
            cases he : eqP z p
            · rw [he] at HE'
              have hne : ¬ z = p := fun h => by rw [(eqP_iff _ _).2 h] at he; cases he
              rw [if_neg (fun h => hne (Option.some.inj h))] at HL0
              have HL := Lib.hid HL0
              clear he hne HL0
              obtain ⟨A', hsl, hA'⟩ := slice_from (some ad) l.length c k hk hc
              have HA' := Lib.hid hA'
              clear hA'
              go_wp2_with fail
              go_quiet (fail)
              have Qwq := Lib.hid (HQ.out.drewN nq)
              have Owq := Lib.hid (row_kept HO.out ((Q.refl wr).drewN nq) (Nat.le_refl _))
              clear HQ HO b0 b1
              generalize wr.drewN nq = wq at *
              have b0 := ((HB.out.q Qwq.out).2 0 _ rfl).1
              have b1 := ((HB.out.q Qwq.out).2 1 _ rfl).1
              clear c0 c1
              obtain ⟨ady, ey, _, c0, c1⟩ := pair_at (HR.out.q Qwq.out) hlt
              injection ey with ey
              subst ey
              rw [hz] at c0 c1
              go_wp2_with fail
              go_quiet (fail)
              have Qwx := Lib.hid (Qwq.out.drewN nq)
              have Owx := Lib.hid (row_kept Owq.out ((Q.refl wq).drewN nq) (Nat.le_refl _))
              clear Qwq Owq b0 b1
              generalize wq.drewN nq = wx at *
              have b0 := ((HB.out.q Qwx.out).2 0 _ rfl).1
              have b1 := ((HB.out.q Qwx.out).2 1 _ rfl).1
              clear c0 c1 hz
              have HQE := Lib.hid (Qwx.out.alloc (Obj.cells #[.int .i64 p.1, .int .i64 p.2] 30))
              have HOE := Lib.hid (row_kept Owx.out ((Q.refl wx).alloc (Obj.cells #[.int .i64 p.1, .int .i64 p.2] 30)) (Nat.le_refl _))
              have HSE := Lib.hid (src_alloc wx [.int .i64 p.1, .int .i64 p.2] 30 (0, 0))
              go_wp2_with (first
                | (at_builtin; refine wpList_append_src _ rfl (.tmp 62) (.tmp 64) _ rfl W0.heap.size 30 i0 _ 2 16 Try.underlying22 Hi.out Hz0.out Hz1.out Hz2.out rfl (by omega) v k (cellsQ (l.take k)) rfl HOE.out (some ⟨wx.heap.size, 0, none⟩) 1 1 [.int .i64 p.1, .int .i64 p.2] rfl rfl HSE.out (by simp [Value.oneCell']) (by unfold maxLen; omega) (by omega) HQE.out.size ?_; intro vb wb ownb grb _; have Ob := Lib.hid ownb; have Qb : Hid (Q W0 wb) := Below.grown HQE.out grb HQE.out.size (fun k e => ((HOE.out).lt k e).1); have HSD := Lib.hid (src_from (HR.out.q Qb.out) HA'.out); clear ownb grb)
                | (at_builtin; refine wpList_append_src _ rfl (.tmp 66) (.tmp 69) _ rfl W0.heap.size 30 i0 _ 2 16 Try.underlying22 Hi.out Hz0.out Hz1.out Hz2.out rfl (by omega) vb (k + 1) (cellsQ (l.take k) ++ [.int .i64 p.1, .int .i64 p.2]) rfl Ob.out A' (l.length - k) (c - k) (cellsQ (l.drop k)) rfl (by rw [cellsQ_len, List.length_drop]) HSD.out (cellsQ_one _) (by unfold maxLen; omega) (by omega) Qb.out.size ?_; intro vd wd ownd grd _; have Od := Lib.hid ownd; have Qd : Hid (Q W0 wd) := Below.grown Qb.out grd Qb.out.size (fun k e => ((Ob.out).lt k e).1); clear ownd grd))
              go_ret
              exact ⟨vd, rfl, by rw [HL.out, cellsQ_append, cellsQ_append, List.length_append, List.length_append, List.length_take, List.length_drop, Nat.min_eq_left hk]; exact row_kept Od.out (Q.refl wd) HQ0.out.size, HQ0.out.trans Qd.out⟩
            · rw [he] at HE'
              have hne : z = p := (eqP_iff _ _).1 he
              rw [if_pos (by rw [hne]), List.append_nil] at HL0
              have HL := Lib.hid HL0
              clear he hne HL0
              obtain ⟨A', hsl, hA'⟩ := slice_from (some ad) l.length c k hk hc
              have HA' := Lib.hid hA'
              clear hA'
              go_wp2_with fail
              go_quiet (fail)
              have Qwq := Lib.hid (HQ.out.drewN nq)
              have Owq := Lib.hid (row_kept HO.out ((Q.refl wr).drewN nq) (Nat.le_refl _))
              clear HQ HO b0 b1
              generalize wr.drewN nq = wq at *
              have b0 := ((HB.out.q Qwq.out).2 0 _ rfl).1
              have b1 := ((HB.out.q Qwq.out).2 1 _ rfl).1
              clear c0 c1
              obtain ⟨ady, ey, _, c0, c1⟩ := pair_at (HR.out.q Qwq.out) hlt
              injection ey with ey
              subst ey
              rw [hz] at c0 c1
              go_wp2_with fail
              go_quiet (fail)
              have Qwx := Lib.hid (Qwq.out.drewN nq)
              have Owx := Lib.hid (row_kept Owq.out ((Q.refl wq).drewN nq) (Nat.le_refl _))
              clear Qwq Owq b0 b1
              generalize wq.drewN nq = wx at *
              have b0 := ((HB.out.q Qwx.out).2 0 _ rfl).1
              have b1 := ((HB.out.q Qwx.out).2 1 _ rfl).1
              clear c0 c1 hz
              have HSD := Lib.hid (src_from (HR.out.q Qwx.out) HA'.out)
              go_wp2_with (at_builtin; refine wpList_append_src _ rfl (.tmp 66) (.tmp 69) _ rfl W0.heap.size 30 i0 _ 2 16 Try.underlying22 Hi.out Hz0.out Hz1.out Hz2.out rfl (by omega) v k (cellsQ (l.take k)) rfl Owx.out A' (l.length - k) (c - k) (cellsQ (l.drop k)) rfl (by rw [cellsQ_len, List.length_drop]) HSD.out (cellsQ_one _) (by unfold maxLen; omega) (by omega) Qwx.out.size ?_; intro vd wd ownd grd _; have Od := Lib.hid ownd; have Qd : Hid (Q W0 wd) := Below.grown Qwx.out grd Qwx.out.size (fun k e => ((Owx.out).lt k e).1); clear ownd grd)
              go_ret
              exact ⟨vd, rfl, by rw [HL.out, cellsQ_append, List.length_append, List.length_take, List.length_drop, Nat.min_eq_left hk]; exact row_kept Od.out (Q.refl wd) HQ0.out.size, HQ0.out.trans Qd.out⟩
        · have d2 : (z.1 == p.1) = false := beq_eq_false_iff_ne.2 h2
          have hno : ¬ ltP z p := by unfold ltP; omega
          clear h2
          have hck : cutP l p = k := by
            have := HC.out
            rcases Nat.lt_or_ge k (cutP l p) with h | h
            · exact absurd (hcut.2 h) hno
            · omega
          have e6 : ((k : Int) == (l.length : Int)) = false := beq_eq_false_iff_ne.2 (by omega)
          have HE' := fun w => run_neq_pair w z p
          have hlk : l[k]? = some z := by rw [List.getElem?_eq_getElem hlt, hz]
          have HL0 := layP_cut p l
          rw [hck, hlk] at HL0
          clear hcut hno hck hlk
          cases he : eqP z p
          · rw [he] at HE'
            have hne : ¬ z = p := fun h => by rw [(eqP_iff _ _).2 h] at he; cases he
            rw [if_neg (fun h => hne (Option.some.inj h))] at HL0
            have HL := Lib.hid HL0
            clear he hne HL0
            obtain ⟨A', hsl, hA'⟩ := slice_from (some ad) l.length c k hk hc
            have HA' := Lib.hid hA'
            clear hA'
            go_wp2_with fail
            go_quiet (fail)
            have Qwq := Lib.hid (HQ.out.drewN nq)
            have Owq := Lib.hid (row_kept HO.out ((Q.refl wr).drewN nq) (Nat.le_refl _))
            clear HQ HO b0 b1
            generalize wr.drewN nq = wq at *
            have b0 := ((HB.out.q Qwq.out).2 0 _ rfl).1
            have b1 := ((HB.out.q Qwq.out).2 1 _ rfl).1
            clear c0 c1
            obtain ⟨ady, ey, _, c0, c1⟩ := pair_at (HR.out.q Qwq.out) hlt
            injection ey with ey
            subst ey
            rw [hz] at c0 c1
            go_wp2_with fail
            go_quiet (fail)
            have Qwx := Lib.hid (Qwq.out.drewN nq)
            have Owx := Lib.hid (row_kept Owq.out ((Q.refl wq).drewN nq) (Nat.le_refl _))
            clear Qwq Owq b0 b1
            generalize wq.drewN nq = wx at *
            have b0 := ((HB.out.q Qwx.out).2 0 _ rfl).1
            have b1 := ((HB.out.q Qwx.out).2 1 _ rfl).1
            clear c0 c1 hz
            have HQE := Lib.hid (Qwx.out.alloc (Obj.cells #[.int .i64 p.1, .int .i64 p.2] 30))
            have HOE := Lib.hid (row_kept Owx.out ((Q.refl wx).alloc (Obj.cells #[.int .i64 p.1, .int .i64 p.2] 30)) (Nat.le_refl _))
            have HSE := Lib.hid (src_alloc wx [.int .i64 p.1, .int .i64 p.2] 30 (0, 0))
            go_wp2_with (first
              | (at_builtin; refine wpList_append_src _ rfl (.tmp 62) (.tmp 64) _ rfl W0.heap.size 30 i0 _ 2 16 Try.underlying22 Hi.out Hz0.out Hz1.out Hz2.out rfl (by omega) v k (cellsQ (l.take k)) rfl HOE.out (some ⟨wx.heap.size, 0, none⟩) 1 1 [.int .i64 p.1, .int .i64 p.2] rfl rfl HSE.out (by simp [Value.oneCell']) (by unfold maxLen; omega) (by omega) HQE.out.size ?_; intro vb wb ownb grb _; have Ob := Lib.hid ownb; have Qb : Hid (Q W0 wb) := Below.grown HQE.out grb HQE.out.size (fun k e => ((HOE.out).lt k e).1); have HSD := Lib.hid (src_from (HR.out.q Qb.out) HA'.out); clear ownb grb)
              | (at_builtin; refine wpList_append_src _ rfl (.tmp 66) (.tmp 69) _ rfl W0.heap.size 30 i0 _ 2 16 Try.underlying22 Hi.out Hz0.out Hz1.out Hz2.out rfl (by omega) vb (k + 1) (cellsQ (l.take k) ++ [.int .i64 p.1, .int .i64 p.2]) rfl Ob.out A' (l.length - k) (c - k) (cellsQ (l.drop k)) rfl (by rw [cellsQ_len, List.length_drop]) HSD.out (cellsQ_one _) (by unfold maxLen; omega) (by omega) Qb.out.size ?_; intro vd wd ownd grd _; have Od := Lib.hid ownd; have Qd : Hid (Q W0 wd) := Below.grown Qb.out grd Qb.out.size (fun k e => ((Ob.out).lt k e).1); clear ownd grd))
            go_ret
            exact ⟨vd, rfl, by rw [HL.out, cellsQ_append, cellsQ_append, List.length_append, List.length_append, List.length_take, List.length_drop, Nat.min_eq_left hk]; exact row_kept Od.out (Q.refl wd) HQ0.out.size, HQ0.out.trans Qd.out⟩
          · rw [he] at HE'
            have hne : z = p := (eqP_iff _ _).1 he
            rw [if_pos (by rw [hne]), List.append_nil] at HL0
            have HL := Lib.hid HL0
            clear he hne HL0
            obtain ⟨A', hsl, hA'⟩ := slice_from (some ad) l.length c k hk hc
            have HA' := Lib.hid hA'
            clear hA'
            go_wp2_with fail
            go_quiet (fail)
            have Qwq := Lib.hid (HQ.out.drewN nq)
            have Owq := Lib.hid (row_kept HO.out ((Q.refl wr).drewN nq) (Nat.le_refl _))
            clear HQ HO b0 b1
            generalize wr.drewN nq = wq at *
            have b0 := ((HB.out.q Qwq.out).2 0 _ rfl).1
            have b1 := ((HB.out.q Qwq.out).2 1 _ rfl).1
            clear c0 c1
            obtain ⟨ady, ey, _, c0, c1⟩ := pair_at (HR.out.q Qwq.out) hlt
            injection ey with ey
            subst ey
            rw [hz] at c0 c1
            go_wp2_with fail
            go_quiet (fail)
            have Qwx := Lib.hid (Qwq.out.drewN nq)
            have Owx := Lib.hid (row_kept Owq.out ((Q.refl wq).drewN nq) (Nat.le_refl _))
            clear Qwq Owq b0 b1
            generalize wq.drewN nq = wx at *
            have b0 := ((HB.out.q Qwx.out).2 0 _ rfl).1
            have b1 := ((HB.out.q Qwx.out).2 1 _ rfl).1
            clear c0 c1 hz
            have HSD := Lib.hid (src_from (HR.out.q Qwx.out) HA'.out)
            go_wp2_with (at_builtin; refine wpList_append_src _ rfl (.tmp 66) (.tmp 69) _ rfl W0.heap.size 30 i0 _ 2 16 Try.underlying22 Hi.out Hz0.out Hz1.out Hz2.out rfl (by omega) v k (cellsQ (l.take k)) rfl Owx.out A' (l.length - k) (c - k) (cellsQ (l.drop k)) rfl (by rw [cellsQ_len, List.length_drop]) HSD.out (cellsQ_one _) (by unfold maxLen; omega) (by omega) Qwx.out.size ?_; intro vd wd ownd grd _; have Od := Lib.hid ownd; have Qd : Hid (Q W0 wd) := Below.grown Qwx.out grd Qwx.out.size (fun k e => ((Owx.out).lt k e).1); clear ownd grd)
            go_ret
            exact ⟨vd, rfl, by rw [HL.out, cellsQ_append, List.length_append, List.length_take, List.length_drop, Nat.min_eq_left hk]; exact row_kept Od.out (Q.refl wd) HQ0.out.size, HQ0.out.trans Qd.out⟩
    · have hkx : k = l.length := by omega
      have hck : cutP l p = k := by have := HC.out; have := cutP_le p l; omega
      have e6 : ((k : Int) == (l.length : Int)) = true := beq_iff_eq.2 (by omega)
      have d0 : decide ((k : Int) < (l.length : Int)) = false := decide_eq_false (by omega)
      have HL0 := layP_cut p l
      rw [hck, List.getElem?_eq_none (by omega), if_neg (by simp)] at HL0
      have HL := Lib.hid HL0
      clear HL0 hck hkx
      obtain ⟨A', hsl, hA'⟩ := slice_from A l.length c k hk hc
      have HA' := Lib.hid hA'
      clear hA'
      go_wp2_with fail
      go_quiet (fail)
      have Qwq := Lib.hid (HQ.out.drewN nq)
      have Owq := Lib.hid (row_kept HO.out ((Q.refl wr).drewN nq) (Nat.le_refl _))
      clear HQ HO b0 b1
      generalize wr.drewN nq = wq at *
      have b0 := ((HB.out.q Qwq.out).2 0 _ rfl).1
      have b1 := ((HB.out.q Qwq.out).2 1 _ rfl).1
      go_wp2_with fail
      go_quiet (fail)
      have Qwx := Lib.hid (Qwq.out.drewN nq)
      have Owx := Lib.hid (row_kept Owq.out ((Q.refl wq).drewN nq) (Nat.le_refl _))
      clear Qwq Owq b0 b1
      generalize wq.drewN nq = wx at *
      have b0 := ((HB.out.q Qwx.out).2 0 _ rfl).1
      have b1 := ((HB.out.q Qwx.out).2 1 _ rfl).1
      have HQE := Lib.hid (Qwx.out.alloc (Obj.cells #[.int .i64 p.1, .int .i64 p.2] 30))
      have HOE := Lib.hid (row_kept Owx.out ((Q.refl wx).alloc (Obj.cells #[.int .i64 p.1, .int .i64 p.2] 30)) (Nat.le_refl _))
      have HSE := Lib.hid (src_alloc wx [.int .i64 p.1, .int .i64 p.2] 30 (0, 0))
      go_wp2_with (first
        | (at_builtin; refine wpList_append_src _ rfl (.tmp 62) (.tmp 64) _ rfl W0.heap.size 30 i0 _ 2 16 Try.underlying22 Hi.out Hz0.out Hz1.out Hz2.out rfl (by omega) v k (cellsQ (l.take k)) rfl HOE.out (some ⟨wx.heap.size, 0, none⟩) 1 1 [.int .i64 p.1, .int .i64 p.2] rfl rfl HSE.out (by simp [Value.oneCell']) (by unfold maxLen; omega) (by omega) HQE.out.size ?_; intro vb wb ownb grb _; have Ob := Lib.hid ownb; have Qb : Hid (Q W0 wb) := Below.grown HQE.out grb HQE.out.size (fun k e => ((HOE.out).lt k e).1); have HSD := Lib.hid (src_from (HR.out.q Qb.out) HA'.out); clear ownb grb)
        | (at_builtin; refine wpList_append_src _ rfl (.tmp 66) (.tmp 69) _ rfl W0.heap.size 30 i0 _ 2 16 Try.underlying22 Hi.out Hz0.out Hz1.out Hz2.out rfl (by omega) vb (k + 1) (cellsQ (l.take k) ++ [.int .i64 p.1, .int .i64 p.2]) rfl Ob.out A' (l.length - k) (c - k) (cellsQ (l.drop k)) rfl (by rw [cellsQ_len, List.length_drop]) HSD.out (cellsQ_one _) (by unfold maxLen; omega) (by omega) Qb.out.size ?_; intro vd wd ownd grd _; have Od := Lib.hid ownd; have Qd : Hid (Q W0 wd) := Below.grown Qb.out grd Qb.out.size (fun k e => ((Ob.out).lt k e).1); clear ownd grd))
      go_ret
      exact ⟨vd, rfl, by rw [HL.out, cellsQ_append, cellsQ_append, List.length_append, List.length_append, List.length_take, List.length_drop, Nat.min_eq_left hk]; exact row_kept Od.out (Q.refl wd) HQ0.out.size, HQ0.out.trans Qd.out⟩
end Go.Proofs.Ytjgbheidkjgncaa.St
