/-
  Plain: how many brackets are open at once in a tree's text. Contract of Right.
-/
import Derived.Test.YtmbdbmjnibfmgaaDoorExprD
import Derived.RegionTactic
namespace Go.Proofs.YtmbdbmjnibfmgaaDoor.Ex
open Go.RowKit Kit Nm Rw

mutual
def Ex.deep : Ex → Nat
  | .mk n ks => deepL n.1 ks
def deepL (k : Int) : List Ex → Nat
  | [] => 0
  | e :: r => max (e.deep + (if inBr k e.root.1 r.isEmpty = true then 1 else 0)) (deepL k r)
end
def deepAt (l : List Tg) (j : Nat) : Nat := match treeAt l j with
  | some c => c.deep
  | none => 0
theorem deep_of {l : List Tg} {j : Nat} {c : Ex} (h : treeAt l j = some c) : deepAt l j = c.deep := by unfold deepAt; rw [h]
def upto (f : Nat → Nat) (n k : Nat) : List Int := ((List.range k).map fun j => (f j : Int)) ++ List.replicate (n - k) 0
theorem upto_len (f : Nat → Nat) (n k : Nat) (h : k ≤ n) : (upto f n k).length = n := by simp [upto]; omega
theorem upto_zero (f : Nat → Nat) (n : Nat) : upto f n 0 = List.replicate n 0 := by simp [upto]
theorem upto_at (f : Nat → Nat) (n k j : Nat) (h : j < k) : (upto f n k)[j]? = some (f j : Int) := by
  unfold upto
  rw [List.getElem?_append_left (by simpa using h)]
  simp [h]
theorem upto_here (f : Nat → Nat) (n k : Nat) (h : k < n) : (upto f n k)[k]? = some 0 := by
  unfold upto
  rw [List.getElem?_append_right (by simp), List.length_map, List.length_range, Nat.sub_self, List.getElem?_replicate, if_pos (by omega)]
theorem upto_next (f : Nat → Nat) (n k : Nat) (h : k < n) : (upto f n k).set k (f k : Int) = upto f n (k + 1) := by
  unfold upto
  rw [List.range_succ, List.set_append_right _ _ (by simp)]
  have e : n - k = (n - (k + 1)) + 1 := by omega
  rw [e, List.replicate_succ]
  simp
theorem deepL_at (k : Int) (ks : List Ex) (i : Nat) (h : i < ks.length) : deepL k (ks.drop i) = max (ks[i].deep + (if inBr k ks[i].root.1 (decide (i + 1 = ks.length)) = true then 1 else 0)) (deepL k (ks.drop (i + 1))) := by
  rw [List.drop_eq_getElem_cons h]
  have e : (ks.drop (i + 1)).isEmpty = decide (i + 1 = ks.length) := by
    rw [Bool.eq_iff_iff, List.isEmpty_iff, List.drop_eq_nil_iff, decide_eq_true_eq]
    omega
  simp only [deepL, e]
theorem deepL_end (k : Int) (ks : List Ex) (i : Nat) (h : ks.length ≤ i) : deepL k (ks.drop i) = 0 := by
  rw [List.drop_eq_nil_of_le h]; rfl
mutual
theorem deep_le : ∀ e : Ex, e.deep ≤ e.size
  | .mk n ks => by
    have := deepL_le n.1 ks
    simp only [Ex.deep, Ex.size, Ex.nodes, List.length_append, List.length_cons, List.length_nil]
    omega
theorem deepL_le : ∀ (k : Int) (ks : List Ex), deepL k ks ≤ (nodesL ks).length + 1
  | _, [] => by simp [deepL]
  | k, e :: r => by
    have h1 := deep_le e
    have h2 := deepL_le k r
    have h3 := size_pos e
    simp only [deepL, nodesL, List.length_append]
    unfold Ex.size at h1 h3
    split <;> omega
end
theorem tree_size_le {l : List Tg} {j : Nat} {c : Ex} (h : treeAt l j = some c) (hj : j < l.length) : c.size ≤ l.length := by
  unfold treeAt at h
  cases hr : runS [] (l.take (j + 1)) with
  | none => rw [hr] at h; cases h
  | some st =>
    rw [hr] at h
    cases st with
    | nil => cases h
    | cons a st =>
      injection h with h
      subst h
      have := (run_pop hr).2.1
      rw [List.length_take] at this
      omega
theorem own_new (w : World) (cs : List Value) (t : TypeId) : OwnC (w.alloc (.cells cs.toArray t)) w.heap.size cs :=
  ⟨by simp, fun j v hv => ⟨by have := (src_alloc w cs t (0, 0)) (by have := (List.getElem?_eq_some_iff.1 hv).1; omega); obtain ⟨ad, e, h⟩ := this; injection e with e; subst e; have := h j v hv; rwa [add_zero_head] at this, World.frozen?_alloc_at _ _ _ _ rfl⟩⟩
theorem cellsI_at' {l : List Int} {k : Nat} {x : Int} (h : l[k]? = some x) : (cellsI l)[k]? = some (.int .i64 x) := by simp [cellsI, h]

set_option maxRecDepth 100000 in
set_option maxHeartbeats 8000000 in
theorem rightP_any (A : Option Addr) (n c : Nat) (l : List Tg) (x : Ex) (w : World) (hn : n = l.length) (hr : Rds w w.heap.size A (cellsG l)) (hl : l.length ≤ 1000) (hm : ∀ t ∈ l, mayN t = true) (hs : runS [] l = some [x]) :
    Calls Tryd.prog 15 #[.slice A n c] w fun e w' => e = .returned (.bool (decide (x.deep ≤ 40))) ∧ Q w w' := by
  subst hn
  have hpos : 0 < l.length := by
    cases l with
    | nil => injection hs with hs; cases hs
    | cons a l => simp
  have CL := Lib.hid (lay_any A l.length c l x w rfl hr hl hm hs)
  have HR := Lib.hid hr
  have HM := Lib.hid hm
  have HS := Lib.hid hs
  clear hr hm hs
  have hmk := make_ints l.length (by omega)
  go_enter Tryd.func15, Tryd.ntmps15
  go_wp2_with fail
  refine CL.out.mono ?_
  rintro e w1 ⟨S, rfl, hS, q1⟩
  have HST := Lib.hid hS
  have HQ1 := Lib.hid q1
  clear hS q1 CL
  go_wp2_with fail
  have HB := Lib.hid (own_new w1 [Value.slice A l.length c, Value.slice S l.length l.length] 47)
  have HA := Lib.hid ((Q.refl w1).alloc (Obj.cells #[Value.slice A l.length c, Value.slice S l.length l.length] 47))
  change Hid (OwnC (w1.alloc (Obj.cells #[Value.slice A l.length c, Value.slice S l.length l.length] 47)) w1.heap.size [Value.slice A l.length c, Value.slice S l.length l.length]) at HB
  have hsz : w1.heap.size + 1 = (w1.alloc (Obj.cells #[Value.slice A l.length c, Value.slice S l.length l.length] 47)).heap.size := by simp
  rw [hsz]
  generalize w1.alloc (Obj.cells #[Value.slice A l.length c, Value.slice S l.length l.length] 47) = W0 at *
  have HO := Lib.hid (own_made W0 l.length 3)
  have HQ := Lib.hid ((Q.refl W0).alloc (Obj.cells (madeCells #[Value.int IntKind.i64 0] l.length) 3))
  obtain ⟨g, hg⟩ : ∃ g, g = W0.heap.size := ⟨_, rfl⟩
  rw [← hg] at HO ⊢
  have HG : Hid (W0.heap.size ≤ g) := by rw [hg]; exact Nat.le_refl _
  have hgl : g < (W0.alloc (Obj.cells (madeCells #[Value.int IntKind.i64 0] l.length) 3)).heap.size := HO.out.1
  have HGL : Hid (w1.heap.size < g) := by rw [hg, ← hsz]; exact Nat.lt_succ_self _
  clear hg hmk hgl hsz
  generalize W0.alloc (Obj.cells (madeCells #[Value.int IntKind.i64 0] l.length) 3) = W1 at *
  have CY := Lib.hid (fun (k : Nat) (hk : k < l.length) (W : World) => mayStand_any l[k] (HM.out _ (List.getElem_mem hk)) W)
  go_loopw [23] (fun i wr => ∃ k : Nat, k ≤ l.length ∧ i = .int .i64 k ∧ Hid (OwnC wr g (cellsI (upto (deepAt l) l.length k))) ∧ Hid (Q W0 wr)) (fun i _ => l.length - (intOf i).toNat)
  case atStart => exact ⟨0, Nat.zero_le _, rfl, by rw [upto_zero]; exact HO, HQ⟩
  case round =>
    clear HO HQ
    obtain ⟨k, hk, rfl, HO, HQ⟩ := hrel
    have HQW : Hid (∀ W : World, Q W0 W → Q w W) := fun W q => HQ1.out.trans (HA.out.trans q)
    by_cases hlt : k < l.length
    · obtain ⟨ad, rfl, hb, c0, c1, c2⟩ := tok_at (HR.out.q (HQW.out _ HQ.out)) hlt
      obtain ⟨sk, hsk⟩ := run_take HS.out k
      obtain ⟨htr, hnp⟩ := tree_at HS.out hlt hsk
      have HDK := Lib.hid (deep_of htr)
      have CP := Lib.hid (fun (W : World) (q : Q W0 W) => parts7_any (some ad) S l.length c l.length l.length l [x] k sk W rfl rfl (HR.out.q (HQW.out _ q)) (HST.out.q (HA.out.trans q)) hl HM.out HS.out hlt hsk)
      have CI := Lib.hid (fun (W : World) (q : Q W0 W) (e : Nat) (he : e < l.length) => isIn_any (some ad) S l.length c l.length l.length l k e W rfl (HR.out.q (HQW.out _ q)) hlt he (by omega))
      have CY1 : Hid (∀ W : World, Calls Tryd.prog 26 #[.agg #[.int .i64 l[k].1, .string l[k].2.1, .int .i64 l[k].2.2]] W fun e w' => e = .returned (.bool true) ∧ Q W w') := CY.out k hlt
      have HBQ : Hid (∀ W : World, Q W0 W → W.cell? ⟨w1.heap.size, 0, none⟩ = some (Value.slice (some ad) l.length c) ∧ W.cell? ⟨w1.heap.size, 1, none⟩ = some (Value.slice S l.length l.length)) := fun W q => ⟨(q.cell (p := ⟨w1.heap.size, 0, none⟩) HB.out.1).trans (HB.out.2 0 _ rfl).1, (q.cell (p := ⟨w1.heap.size, 1, none⟩) HB.out.1).trans (HB.out.2 1 _ rfl).1⟩
      clear htr hb hsk
      go_wp2_with (first
        | (go_at_call 26; refine (CY1.out _).mono ?_; rintro e w2 ⟨rfl, q2⟩; have HQ2 := Lib.hid (((HQ.out.alloc (Obj.cells #[.int .i64 l[k].1, .string l[k].2.1, .int .i64 l[k].2.2] 38)).trans q2)); have HO2 := Lib.hid (HO.out.q (((Q.refl wr).alloc (Obj.cells #[.int .i64 l[k].1, .string l[k].2.1, .int .i64 l[k].2.2] 38)).trans q2)); clear q2; obtain ⟨b0, b1⟩ := HBQ.out _ HQ2.out)
        | (go_at_call 27; refine (CP.out _ HQ2.out).mono ?_; rintro e w3 ⟨B, K, rfl, hB, hK, hE, hN, q3⟩))
      -- the parts, one by one
      have HQ3 := Lib.hid (HQ2.out.trans q3)
      have HO3 := Lib.hid (HO2.out.q q3)
      have hBg : g ≠ B := by have := HO2.out.1; omega
      have HK := Lib.hid hK
      have HE := Lib.hid hE
      have HN := Lib.hid hN
      have hfew := (parts_nat (HM.out l[k] (List.getElem_mem hlt))).2
      have HDL : Hid (deepAt l k = deepL l[k].1 (sk.take (np l[k])).reverse) := HDK.out
      have hkn : (sk.take (np l[k])).reverse.length = np l[k] := by simp; omega
      clear hK hE hN q3 hB HDK HO2 HQ2 HO HQ CP CY CY1 b0 b1 c0 c1 c2
      generalize (sk.take (np l[k])).reverse = ks at *
      generalize hnk : np l[k] = N at *
      generalize hkk : l[k].1 = nk at *
      clear hnk hkk hnp
      go_loopw [35] (fun ix wr => ∃ (i cur : Nat), i ≤ N ∧ ix = .int .i64 i ∧ Hid (max cur (deepL nk (ks.drop i)) = deepAt l k) ∧ Hid (OwnC wr g (cellsI ((upto (deepAt l) l.length k).set k (cur : Int)))) ∧ Hid (OwnC wr B (cellsN K)) ∧ Hid (Q W0 wr)) (fun ix _ => N - (intOf ix).toNat)
      case atStart => exact ⟨0, 0, Nat.zero_le _, rfl, by unfold Hid; rw [HDL.out]; simp, by
        have e : (upto (deepAt l) l.length k).set k ((0 : Nat) : Int) = upto (deepAt l) l.length k := by
          refine List.ext_getElem? fun j => ?_
          rw [List.getElem?_set]
          split
          · rename_i hj; subst hj; rw [if_pos (by rw [upto_len _ _ _ hk]; exact hlt), upto_here _ _ _ hlt]; rfl
          · rfl
        rw [e]; exact HO3, HK, HQ3⟩
      case round =>
        clear HO3 HK HQ3
        obtain ⟨i, cur, hi, rfl, HD, HO3, HK, HQ3⟩ := hrel
        have hkl3 : k < (cellsI ((upto (deepAt l) l.length k).set k (cur : Int))).length := by rw [cellsI_len, List.length_set, upto_len _ _ _ hk]; exact hlt
        by_cases hil : i < N
        · have hiK : i < K.length := by rw [HE.out.len, hkn]; exact hil
          have hik : i < ks.length := by rw [hkn]; exact hil
          obtain ⟨he1, he2⟩ := HE.out.each i hiK hik
          have hel : K[i] < l.length := by omega
          have hroot := root_of HS.out hel he2
          have hdeep := deep_of he2
          have hnear := HN.out i hiK
          have HL := Lib.hid (deepL_at nk ks i hik)
          have CI1 := Lib.hid (fun (W : World) (q : Q W0 W) => CI.out W q K[i] hel)
          have hgt1 : ((upto (deepAt l) l.length k).set k (cur : Int))[K[i]]? = some (deepAt l K[i] : Int) := by rw [List.getElem?_set_ne (by omega), upto_at _ _ _ _ he1]
          have hgt2 : ((upto (deepAt l) l.length k).set k (cur : Int))[k]? = some (cur : Int) := by rw [List.getElem?_set_self (by rw [upto_len _ _ _ hk]; exact hlt)]
          have hc := (HO3.out.2 K[i] _ (cellsI_at' hgt1)).1
          have hcp := (HK.out.2 i _ (cellsN_at hiK)).1
          rw [hdeep] at hc hgt1
          have eb : decide (K[i] + 1 = k) = decide (i + 1 = ks.length) := by
            rw [Bool.eq_iff_iff, decide_eq_true_eq, decide_eq_true_eq, hnear, HE.out.len]
          have HI : Hid (∀ W : World, Q W0 W → Calls Tryd.prog 28 #[.agg #[.slice (some ad) l.length c, .slice S l.length l.length], .int .i64 (k : Int), .int .i64 (K[i] : Int)] W fun e w' => e = .returned (.bool (inBr nk ks[i].root.1 (decide (i + 1 = ks.length)))) ∧ Q W w') := fun W q => by
            have := CI1.out W q
            rw [eb, ← hroot] at this
            exact this
          have hD0 := Nat.le_trans (deep_le ks[i]) (tree_size_le he2 hel)
          clear eb hroot hdeep hnear CI1 he2
          generalize inBr nk ks[i].root.1 (decide (i + 1 = ks.length)) = b at *
          generalize ks[i].deep = D at *
          generalize K[i] = e at *
          have hec := Lib.hid (cellsI_at' hgt1)
          have hkc := Lib.hid (cellsI_at' hgt2)
          obtain ⟨b0, b1⟩ := HBQ.out _ HQ3.out
          cases b
          · by_cases hcmp : cur < D
            · have HD' : Hid (max (D) (deepL nk (ks.drop (i + 1))) = deepAt l k) := by
                unfold Hid
                rw [← HD.out, HL.out, if_neg (by decide)]
                omega
              have d0 : (D : Int) > (cur : Int) := by omega
              clear HD HL hcmp
              go_wp2_with (go_at_call 28; refine (HI.out _ HQ3.out).mono ?_; rintro e w4 ⟨rfl, q4⟩; have HQ4 := Lib.hid (HQ3.out.trans q4); have HO4 := Lib.hid (HO3.out.q q4); have HK4 := Lib.hid (HK.out.q q4); have hx := HO4.out.2 k _ hkc.out; have hx1 := hx.1; have hx2 := hx.2; have hcd := (HO4.out.2 e _ hec.out).1; clear hx q4; have HSt := Lib.hid (HO4.out.set (s := k) hkl3 (.int .i64 (((D) : Nat) : Int))); rw [← cellsI_set, List.set_set] at HSt; have HQ5 : Hid (Q W0 (w4.setCell ⟨g, k, none⟩ (.int .i64 (((D) : Nat) : Int)))) := grown_q (setCell_grown _ _ _ _) HQ4.out HG.out; have HK5 := Lib.hid (HK4.out.far (i := k) hBg (.int .i64 (((D) : Nat) : Int))))
              go_roundw
              case rel => exact ⟨i + 1, (D), by omega, by go_num, HD', HSt, HK5, HQ5⟩
              case measure => simp [intOf]; omega
            · have HD' : Hid (max cur (deepL nk (ks.drop (i + 1))) = deepAt l k) := by
                unfold Hid
                rw [← HD.out, HL.out, if_neg (by decide)]
                omega
              have d0 : ¬ ((D : Int) > (cur : Int)) := by omega
              clear HD HL hcmp
              go_wp2_with (go_at_call 28; refine (HI.out _ HQ3.out).mono ?_; rintro e w4 ⟨rfl, q4⟩; have HQ4 := Lib.hid (HQ3.out.trans q4); have HO4 := Lib.hid (HO3.out.q q4); have HK4 := Lib.hid (HK.out.q q4); have hx := HO4.out.2 k _ hkc.out; have hx1 := hx.1; have hx2 := hx.2; have hcd := (HO4.out.2 e _ hec.out).1; clear hx q4; have HSt := Lib.hid (HO4.out.set (s := k) hkl3 (.int .i64 ((cur : Nat) : Int))); rw [← cellsI_set, List.set_set] at HSt; have HQ5 : Hid (Q W0 (w4.setCell ⟨g, k, none⟩ (.int .i64 ((cur : Nat) : Int)))) := grown_q (setCell_grown _ _ _ _) HQ4.out HG.out; have HK5 := Lib.hid (HK4.out.far (i := k) hBg (.int .i64 ((cur : Nat) : Int))))
              go_roundw
              case rel => exact ⟨i + 1, cur, by omega, by go_num, HD', HSt, HK5, HQ5⟩
              case measure => simp [intOf]; omega
          · by_cases hcmp : cur < D + 1
            · have HD' : Hid (max (D + 1) (deepL nk (ks.drop (i + 1))) = deepAt l k) := by
                unfold Hid
                rw [← HD.out, HL.out, if_pos rfl]
                omega
              have d0 : (D : Int) + 1 > (cur : Int) := by omega
              clear HD HL hcmp
              go_wp2_with (go_at_call 28; refine (HI.out _ HQ3.out).mono ?_; rintro e w4 ⟨rfl, q4⟩; have HQ4 := Lib.hid (HQ3.out.trans q4); have HO4 := Lib.hid (HO3.out.q q4); have HK4 := Lib.hid (HK.out.q q4); have hx := HO4.out.2 k _ hkc.out; have hx1 := hx.1; have hx2 := hx.2; have hcd := (HO4.out.2 e _ hec.out).1; clear hx q4; have HSt := Lib.hid (HO4.out.set (s := k) hkl3 (.int .i64 (((D + 1) : Nat) : Int))); rw [← cellsI_set, List.set_set] at HSt; have HQ5 : Hid (Q W0 (w4.setCell ⟨g, k, none⟩ (.int .i64 (((D + 1) : Nat) : Int)))) := grown_q (setCell_grown _ _ _ _) HQ4.out HG.out; have HK5 := Lib.hid (HK4.out.far (i := k) hBg (.int .i64 (((D + 1) : Nat) : Int))))
              go_roundw
              case rel => exact ⟨i + 1, (D + 1), by omega, by go_num, HD', HSt, HK5, HQ5⟩
              case measure => simp [intOf]; omega
            · have HD' : Hid (max cur (deepL nk (ks.drop (i + 1))) = deepAt l k) := by
                unfold Hid
                rw [← HD.out, HL.out, if_pos rfl]
                omega
              have d0 : ¬ ((D : Int) + 1 > (cur : Int)) := by omega
              clear HD HL hcmp
              go_wp2_with (go_at_call 28; refine (HI.out _ HQ3.out).mono ?_; rintro e w4 ⟨rfl, q4⟩; have HQ4 := Lib.hid (HQ3.out.trans q4); have HO4 := Lib.hid (HO3.out.q q4); have HK4 := Lib.hid (HK.out.q q4); have hx := HO4.out.2 k _ hkc.out; have hx1 := hx.1; have hx2 := hx.2; have hcd := (HO4.out.2 e _ hec.out).1; clear hx q4; have HSt := Lib.hid (HO4.out.set (s := k) hkl3 (.int .i64 ((cur : Nat) : Int))); rw [← cellsI_set, List.set_set] at HSt; have HQ5 : Hid (Q W0 (w4.setCell ⟨g, k, none⟩ (.int .i64 ((cur : Nat) : Int)))) := grown_q (setCell_grown _ _ _ _) HQ4.out HG.out; have HK5 := Lib.hid (HK4.out.far (i := k) hBg (.int .i64 ((cur : Nat) : Int))))
              go_roundw
              case rel => exact ⟨i + 1, cur, by omega, by go_num, HD', HSt, HK5, HQ5⟩
              case measure => simp [intOf]; omega
        · obtain rfl : i = N := by omega
          have HF : Hid (cur = deepAt l k) := by
            unfold Hid
            rw [← HD.out, deepL_end _ _ _ (by rw [hkn]; exact Nat.le_refl _)]
            simp
          have HO5 : Hid (OwnC wr g (cellsI (upto (deepAt l) l.length (k + 1)))) := by
            rw [← upto_next _ _ _ hlt, ← HF.out]; exact HO3
          clear HF HD
          go_wp2_with fail
          go_roundw
          case rel => exact ⟨k + 1, by omega, by go_num, HO5, HQ3⟩
          case measure => simp [intOf]; omega
    · obtain rfl : k = l.length := by omega
      obtain ⟨k', hk'⟩ : ∃ k', l.length = k' + 1 := ⟨l.length - 1, by omega⟩
      have h0 : deepAt l k' = x.deep := by
        refine deep_of ?_
        have e : l.take (k' + 1) = l := by rw [← hk', List.take_length]
        unfold treeAt
        rw [e, HS.out]; rfl
      have hc := (HO.out.2 k' _ (cellsI_at' (upto_at (deepAt l) l.length l.length k' (by omega)))).1
      rw [h0] at hc
      have e1 : ((l.length : Nat) : Int) - 1 = (k' : Int) := by omega
      have HK' := Lib.hid hk'
      have hkl : k' < l.length := by omega
      clear h0 hk'
      go_wp2_with fail
      go_ret
      have HE : Hid (decide ((x.deep : Int) ≤ 40) = decide (x.deep ≤ 40)) := by
        unfold Hid
        rw [Bool.eq_iff_iff, decide_eq_true_eq, decide_eq_true_eq]
        omega
      exact ⟨by rw [← HE.out]; rfl, HQW.out _ HQ.out⟩
end Go.Proofs.YtmbdbmjnibfmgaaDoor.Ex
