/-
  What the proofs lean on, part 14 of 25.
-/
import Derived.Test.YtdmdcggmgipdbaaGreatDoorPa
import Derived.Test.YtdmdcggmgipdbaaGreatDoorPg
import Derived.Test.YtdmdcggmgipdbaaGreatDoorPh
import Derived.Test.YtdmdcggmgipdbaaGreatDoorPi
import Derived.Test.YtdmdcggmgipdbaaGreatDoorPl
import Derived.Test.YtdmdcggmgipdbaaGreatDoorPm
import Derived.Deep.RegionHeld3
namespace Go.Proofs.YtdmdcggmgipdbaaGreatDoor.Tm
open Go.RowKit Kit Hs

set_option maxRecDepth 100000 in
set_option maxHeartbeats 1000000 in
theorem refOfB_any (Bd : Nat) (A S : Option Addr) (n c m d : Nat) (ks : List (List Int)) (id : Int) (w : World) (hn : n = ks.length) (hk : Keys w Bd A ks) (hBd : Bd ≤ w.heap.size) :
    Calls Tryz.prog 39 #[.agg #[.slice A n c, .slice S m d], .int .i64 id] w (LookB Bd ks id w) := by
  subst hn
  have q0 := ((Q.refl w).alloc (Obj.cells #[Value.slice A ks.length c, Value.slice S m d] 26)).alloc (Obj.cells #[.int .i64 0, .int .i64 0, .int .i64 0, .slice none 0 0] 77)
  cases hp : isPl id ks.length
  · have HT := Lib.hid (termAt_out hp)
    have hno := isPl_no hp
    clear hk
    by_cases h0 : id < 0
    · have d0 : decide (id < 0) = true := decide_eq_true h0
      clear hno h0
      go_enter Tryz.func39, Tryz.ntmps39
      go_wp2_with fail
      exact bodyPost_ret (v := .tuple #[.agg #[.int .i64 0, .int .i64 0, .int .i64 0, .slice none 0 0], .bool false]) (by simp [results, Tryz.f39, go_sem]) rfl (lookB_none HT.out q0)
    · have d0 : decide (id < 0) = false := decide_eq_false h0
      have d1 : decide ((ks.length : Int) ≤ id) = true := decide_eq_true (by omega)
      clear hno h0
      go_enter Tryz.func39, Tryz.ntmps39
      go_wp2_with fail
      exact bodyPost_ret (v := .tuple #[.agg #[.int .i64 0, .int .i64 0, .int .i64 0, .slice none 0 0], .bool false]) (by simp [results, Tryz.f39, go_sem]) rfl (lookB_none HT.out q0)
  · obtain ⟨h0, h1⟩ := (isPl_iff _ _).1 hp
    obtain ⟨i, rfl⟩ := Int.eq_ofNat_of_zero_le h0
    have hlt : i < ks.length := by omega
    obtain ⟨ad, rfl, hb, a, c1, hle, c0, hi⟩ := hk.at_ hlt
    by_cases h3 : 3 ≤ ks[i].length
    · have HT := Lib.hid (termAt_key hlt h3)
      obtain ⟨ad1, rfl, hb1, hc1⟩ := hi (by omega)
      have k0 := hc1 0 _ (List.getElem?_eq_getElem (show 0 < ks[i].length by omega))
      have k1 := hc1 1 _ (List.getElem?_eq_getElem (show 1 < ks[i].length by omega))
      have k2 := hc1 2 _ (List.getElem?_eq_getElem (show 2 < ks[i].length by omega))
      have hsl := slice_l (some ad1) ks[i].length c1 3 h3
      have d3 : decide (ks[i].length < 3) = false := decide_eq_false (by omega)
      have Hc := Lib.hid hc1
      have c0' := (q0.cell (p := ad.add i) (by rw [add_block]; exact Nat.lt_of_lt_of_le hb hBd)).trans c0
      have k0' : ((w.alloc (Obj.cells #[Value.slice (some ad) ks.length c, Value.slice S m d] 26)).alloc (Obj.cells #[.int .i64 0, .int .i64 0, .int .i64 0, .slice none 0 0] 77)).cell? ad1 = some (.int .i64 ks[i][0]) := (q0.cell (by exact Nat.lt_of_lt_of_le hb1 hBd)).trans (by simpa [Addr.add] using k0)
      have k1' : ((w.alloc (Obj.cells #[Value.slice (some ad) ks.length c, Value.slice S m d] 26)).alloc (Obj.cells #[.int .i64 0, .int .i64 0, .int .i64 0, .slice none 0 0] 77)).cell? ⟨ad1.block, ad1.off + 1, none⟩ = some (.int .i64 ks[i][1]) := (q0.cell (by exact Nat.lt_of_lt_of_le hb1 hBd)).trans (by simpa [Addr.add] using k1)
      have k2' : ((w.alloc (Obj.cells #[Value.slice (some ad) ks.length c, Value.slice S m d] 26)).alloc (Obj.cells #[.int .i64 0, .int .i64 0, .int .i64 0, .slice none 0 0] 77)).cell? ⟨ad1.block, ad1.off + 2, none⟩ = some (.int .i64 ks[i][2]) := (q0.cell (by exact Nat.lt_of_lt_of_le hb1 hBd)).trans (by simpa [Addr.add] using k2)
      clear hk hc1 hi c0 k0 k1 k2
      go_enter Tryz.func39, Tryz.ntmps39
      go_wp2_with fail
      go_region
      all_goals go_wp2_with fail
      · rename_i h
        have qW : Q w (((w.alloc (Obj.cells #[Value.slice (some ad) ks.length c, Value.slice S m d] 26)).alloc (Obj.cells #[.int .i64 ks[i][0], .int .i64 ks[i][1], .int .i64 ks[i][2], .slice (some ad1) (ks[i].length - 3) 0] 77)).drew) := (((Q.refl w).alloc _).alloc _).drew
        refine bodyPost_ret (v := .tuple #[.agg #[.int .i64 ks[i][0], .int .i64 ks[i][1], .int .i64 ks[i][2], .slice (some ad1) (ks[i].length - 3) 0], .bool true]) (by simp [results, Tryz.f39, go_sem]) rfl (lookB_some HT.out (by simp) (fun h0 => ?_) qW)
        rw [List.length_drop] at h0
        omega
      · have qW : Q w (((w.alloc (Obj.cells #[Value.slice (some ad) ks.length c, Value.slice S m d] 26)).alloc (Obj.cells #[.int .i64 ks[i][0], .int .i64 ks[i][1], .int .i64 ks[i][2], .slice (some ⟨ad1.block, ad1.off + 3, none⟩) (ks[i].length - 3) (c1 - 3)] 77)).drew) := (((Q.refl w).alloc _).alloc _).drew
        refine bodyPost_ret (v := .tuple #[.agg #[.int .i64 ks[i][0], .int .i64 ks[i][1], .int .i64 ks[i][2], .slice (some ⟨ad1.block, ad1.off + 3, none⟩) (ks[i].length - 3) (c1 - 3)], .bool true]) (by simp [results, Tryz.f39, go_sem]) rfl (lookB_some HT.out (by simp) ?_ qW)
        exact drop_intsB Hc.out hb1 hBd qW 3
    · have HT := Lib.hid (termAt_short hlt (Nat.lt_of_not_le h3))
      have d3 : decide (ks[i].length < 3) = true := decide_eq_true (by omega)
      have c0' := (q0.cell (p := ad.add i) (by rw [add_block]; exact Nat.lt_of_lt_of_le hb hBd)).trans c0
      clear hk hi c0
      go_enter Tryz.func39, Tryz.ntmps39
      go_wp2_with fail
      exact bodyPost_ret (v := .tuple #[.agg #[.int .i64 0, .int .i64 0, .int .i64 0, .slice none 0 0], .bool false]) (by simp [results, Tryz.f39, go_sem]) rfl (lookB_none HT.out q0)

/-- a term's box, just laid -/
theorem zero4 (w : World) : Box4 (w.alloc (.cells #[.int .i64 0, .int .i64 0, .int .i64 0, .slice none 0 0] 77)) w.heap.size (.int .i64 0) (.int .i64 0) (.int .i64 0) (.slice none 0 0) := Box4.new w _ _ _ _ _
/-- the row that is gone through, its place, and the box of the term that is looked at -/
structure Gt (W wr : World) (all : List Nat) (v : Value) (tb : Nat) (A1 : Option Addr) (N c1 : Nat) : Prop where
  own : wr.ownsRow W.heap.size 3 1 v all.length (cellsI (castL all))
  c3 : wr.cell? ⟨tb, 3, none⟩ = some (.slice A1 N c1)
  lt : tb < wr.heap.size
  far : W.heap.size ≤ tb
  ne : v.ownBlock ≠ some tb
  q : Q W wr
def CutB (W : World) (all : List Nat) (v : Value) (xs : List Int) (p ok : Value) (wx : World) : Prop :=
  ∃ tb A1 N c1 b, p = .pointer (some ⟨tb, 0, none⟩) ∧ ok = .bool b ∧ N = xs.length ∧ Ints W W.heap.size A1 xs ∧ Gt W wx all v tb A1 N c1
theorem Gt.push {W wr w' : World} {all : List Nat} {v v' : Value} {tb N c1 x : Nat} {A1 : Option Addr} (h : Gt W wr all v tb A1 N c1) (own : w'.ownsRow W.heap.size 3 1 v' (all.length + 1) (cellsI (castL all) ++ [.int .i64 (x : Int)])) (hg : (wr.alloc (.cells #[.int .i64 (x : Int)] 3)).grownBy w' v.ownBlock) (hv : v'.ownBlock = v.ownBlock ∨ v'.ownBlock = some (wr.alloc (.cells #[.int .i64 (x : Int)] 3)).heap.size) : Gt W w' (all ++ [x]) v' tb A1 N c1 := by
  have qa := (Q.refl wr).alloc (.cells #[.int .i64 (x : Int)] 3)
  have hne : some tb ≠ v.ownBlock := fun e => h.ne e.symm
  refine ⟨?_, ?_, Nat.lt_of_lt_of_le h.lt (Nat.le_trans qa.size hg.size), h.far, ?_, (h.q.trans qa).grown hg (h.q.trans qa).size (fun b hb => (h.own.lt b hb).1)⟩
  · rw [List.length_append, List.length_singleton, castL_snoc, ← snocI]; exact own
  · exact (hg.cell_far ⟨tb, 3, none⟩ (Nat.lt_of_lt_of_le h.lt qa.size) hne).trans ((qa.cell (p := ⟨tb, 3, none⟩) h.lt).trans h.c3)
  · rcases hv with e | e
    · rw [e]; exact h.ne
    · rw [e]
      intro e2
      injection e2 with e2
      have := h.lt
      simp at e2
      omega
theorem row_q {w w' : World} {base n : Nat} {e : TypeId} {v : Value} {xs : List Value} (h : w.ownsRow base e 1 v n xs) (q : Q w w') : w'.ownsRow base e 1 v n xs := by
  obtain ⟨h1, h2 | ⟨g, cap, cur, h3, h4, h5, h6⟩⟩ := h
  · exact ⟨h1, .inl h2⟩
  · exact ⟨h1, .inr ⟨g, cap, cur, h3, h4, (q.block g (Array.getElem?_eq_some_iff.1 h5).1).trans h5, h6⟩⟩

def upG (all : List Nat) (p : Nat) : List Nat := (List.range p).filter fun x => inL (castL all) (x : Int)
theorem upG_yes {all : List Nat} {p : Nat} (h : inL (castL all) (p : Int) = true) : upG all (p + 1) = upG all p ++ [p] := by
  unfold upG
  rw [List.range_succ, List.filter_append, List.filter_cons_of_pos (p := fun x : Nat => inL (castL all) (x : Int)) h]
  rfl
theorem upG_no {all : List Nat} {p : Nat} (h : inL (castL all) (p : Int) = false) : upG all (p + 1) = upG all p := by
  unfold upG
  rw [List.range_succ, List.filter_append, List.filter_cons_of_neg (p := fun x : Nat => inL (castL all) (x : Int)) (by rw [h]; simp)]
  simp
theorem four_q {wr w3 : World} (p : Q wr w3) (a b c d : Value) : Q wr ((((w3.setCell ⟨wr.heap.size, 0, none⟩ a).setCell ⟨wr.heap.size, 1, none⟩ b).setCell ⟨wr.heap.size, 2, none⟩ c).setCell ⟨wr.heap.size, 3, none⟩ d) :=
  (((p.setCell (p := ⟨wr.heap.size, 0, none⟩) (Nat.le_refl _) _).setCell (p := ⟨wr.heap.size, 1, none⟩) (Nat.le_refl _) _).setCell (p := ⟨wr.heap.size, 2, none⟩) (Nat.le_refl _) _).setCell (p := ⟨wr.heap.size, 3, none⟩) (Nat.le_refl _) _

set_option maxRecDepth 100000 in
set_option maxHeartbeats 8000000 in
theorem refBelow_in (A S : Option Addr) (c m d : Nat) (l : List Sg.Sig) (ks : List (List Int)) (id : Nat) (w : World) (hk : Keys w w.heap.size A ks) (hst : Store l ks) (hid : id < ks.length) (hl : ks.length ≤ 5000) (hs : ∀ k ∈ ks, k.length ≤ 100000) :
    Calls Tryz.prog 38 #[.agg #[.slice A ks.length c, .slice S m d], .int .i64 (id : Int)] w (RowPost (belowL ks id) w) := by
  have q0 := (Q.refl w).alloc (Obj.cells #[Value.slice A ks.length c, Value.slice S m d] 26)
  have Hk := Lib.hid ((hk.q (Nat.le_refl _) q0).more q0.size)
  have HB := Lib.hid (BoxT.new w (Value.slice A ks.length c) (Value.slice S m d) 26)
  have HsM := Lib.hid hs
  have Hst := Lib.hid hst
  have d0 : decide ((id : Int) < 0) = false := decide_eq_false (by omega)
  have d1 : decide ((ks.length : Int) ≤ (id : Int)) = false := decide_eq_false (by omega)
  have d2 : decide (ks.length ≤ id) = false := decide_eq_false (by omega)
  obtain ⟨i0, hi, hz0, hz1, hz2⟩ := info_parts intInfo
  have Hi := Lib.hid hi
  have Hz0 := Lib.hid hz0
  have Hz1 := Lib.hid hz1
  have Hz2 := Lib.hid hz2
  clear hk hs hst hi hz0 hz1 hz2
  go_enter Tryz.func38, Tryz.ntmps38
  go_upto_region 3 with fail
  generalize w.alloc (Obj.cells #[Value.slice A ks.length c, Value.slice S m d] 26) = W at *
  have ho := own_block (base := W.heap.size) (e := 3) (cs := #[.int .i64 (id : Int)]) (Nat.le_refl _) (heap_alloc_new W (Obj.cells #[.int .i64 (id : Int)] 3)) (by unfold maxLen; simp)
  have Ho : Hid ((W.alloc (Obj.cells #[.int .i64 (id : Int)] 3)).ownsRow W.heap.size 3 1 (.slice (some ⟨W.heap.size, 0, none⟩) 1 1) 1 (cellsI (castL [id]))) := ho
  have qW := (Q.refl W).alloc (Obj.cells #[.int .i64 (id : Int)] 3)
  clear ho
  go_wp2_with fail
  go_loopw [5, 6, 7, 8, 9, 10] (fun v i _ _ _ _ wr => ∃ (k : Nat) (all : List Nat), k ≤ all.length ∧ all.length ≤ id + 1 ∧ i = .int .i64 k ∧ Hid (Fnd ks id all k) ∧ Hid (wr.ownsRow W.heap.size 3 1 v all.length (cellsI (castL all))) ∧ Q W wr) (fun _ i _ _ _ _ _ => id + 1 - (intOf i).toNat)
  case atStart => exact ⟨0, [id], Nat.zero_le _, by simp, rfl, Lib.hid (Fnd.start ks id), Ho, qW⟩
  case round =>
    clear Ho qW
    obtain ⟨k, all, hka, hal, rfl, HFd, HOw, qr⟩ := hrel
    by_cases hlt : k < all.length
    · obtain ⟨Av, cv, hv, _, hAv⟩ := own_form HOw.out
      obtain ⟨g, rfl, hg0, hg1, hgc⟩ := hAv (by omega)
      subst hv
      obtain ⟨y, hy⟩ : ∃ y, all[k]? = some y := ⟨all[k], List.getElem?_eq_getElem hlt⟩
      have hyc := (hgc k _ (by unfold cellsI; rw [List.getElem?_map, castL_get hy]; rfl)).1
      have hyM := HFd.out.made y (List.mem_of_getElem? hy)
      have hyl := hyM.le
      have hyk : y < ks.length := by omega
      obtain ⟨h3, hM, _⟩ := keyOk_parts (Hst.out.ok y _ (List.getElem?_eq_getElem hyk))
      have HTn := Lib.hid (termAt_at hyk h3)
      have ha : argsOf ks y = (ofKey ks[y]).xs := by unfold argsOf; rw [termAt_at hyk h3]; rfl
      have hxl : (ofKey ks[y]).xs.length ≤ 100000 := by have := HsM.out _ (List.getElem_mem hyk); simp [ofKey]; omega
      obtain ⟨t, ht⟩ : ∃ t, ofKey ks[y] = t := ⟨_, rfl⟩
      rw [ht] at HTn hM ha hxl
      have Ha := Lib.hid ha
      have Hy := Lib.hid hy
      have HP : Hid (∀ x ∈ t.xs, 0 ≤ x ∧ x < (y : Int)) := fun x hx => by
        unfold mayB at hM
        simp only [Bool.and_eq_true] at hM
        have h2 := hM.2
        unfold allPl at h2
        rw [List.all_eq_true] at h2
        exact (isPl_iff _ _).1 (h2 x hx)
      have b0 := (HB.out.q qr).c0
      have b1 := (HB.out.q qr).c1
      have hbl := (HB.out.q qr).lt
      have k0 : (0 : Int) ≤ (k : Int) := by omega
      have k1 : (k : Int) < (all.length : Int) := by omega
      have HCO : Hid (∀ U, Q wr U → Calls Tryz.prog 39 #[.agg #[.slice A ks.length c, .slice S m d], .int .i64 (y : Int)] U (LookB W.heap.size ks (y : Int) U)) := fun U p => refOfB_any W.heap.size _ _ _ _ _ _ ks y U rfl (Hk.out.keep (qr.trans p)) (qr.trans p).size
      clear ht h3 hM hgc ha hy hAv
      go_upto_region 7 with fail
      go_cut [7, 8] (CutB W all (.slice (some ⟨g, 0, none⟩) all.length cv) t.xs)
      case first =>
        go_region_held3 (fun w' => w'.cell? ⟨w.heap.size, 0, none⟩ = some (.slice A ks.length c) ∧ w'.cell? ⟨w.heap.size, 1, none⟩ = some (.slice S m d) ∧ w'.cell? ⟨g, k, none⟩ = some (.int .i64 (y : Int)))
          (first
            | (with_reducible exact ⟨((four_q p3 _ _ _ _).cell (p := ⟨w.heap.size, 0, none⟩) hbl).trans b0, ((four_q p3 _ _ _ _).cell (p := ⟨w.heap.size, 1, none⟩) hbl).trans b1, ((four_q p3 _ _ _ _).cell (p := ⟨g, k, none⟩) hg1).trans hyc⟩)
            | (with_reducible exact ⟨((p3.alloc _).cell (p := ⟨w.heap.size, 0, none⟩) hbl).trans b0, ((p3.alloc _).cell (p := ⟨w.heap.size, 1, none⟩) hbl).trans b1, ((p3.alloc _).cell (p := ⟨g, k, none⟩) hg1).trans hyc⟩)
            | (with_reducible exact ⟨(p3.cell (p := ⟨w.heap.size, 0, none⟩) hbl).trans b0, (p3.cell (p := ⟨w.heap.size, 1, none⟩) hbl).trans b1, (p3.cell (p := ⟨g, k, none⟩) hg1).trans hyc⟩)
            | go_keep)
          (first
            | (go_at_call 39; refine (HCO.out _ (by first | exact (Q.refl wr).drew | exact (Q.refl wr).drew.alloc _ | exact ((Q.refl wr).alloc _).drew)).mono ?_; rintro e w3 ⟨A1, N, c1, rfl, hN, hA1, q3⟩; rw [HTn.out] at hN hA1 ⊢; simp only [Option.getD_some, Option.isSome_some] at hN hA1 ⊢; have HN := Lib.hid hN; have HA1 := Lib.hid hA1; clear hN hA1; have p3 : Q wr w3 := (by first | exact (Q.refl wr).drew.trans q3 | exact ((Q.refl wr).drew.alloc _).trans q3 | exact ((Q.refl wr).alloc _).drew.trans q3); (first | (have bx : Box4 w3 wr.heap.size (.int .i64 0) (.int .i64 0) (.int .i64 0) (.slice none 0 0) := (by first | exact (zero4 wr.drew).q q3 | exact (zero4 wr).q q3); have y0 := bx.c0; have y1 := bx.c1; have y2 := bx.c2; have y3 := bx.c3; have z0 := bx.f0; have z1 := bx.f1; have z2 := bx.f2; have z3 := bx.f3) | skip)))
        · go_wp2_with fail
          go_meet
          refine ⟨w3.heap.size, A1, N, c1, true, rfl, rfl, HN.out, HA1.out.back (qr.trans p3), row_q HOw.out (p3.alloc _), by simp, by simp, (qr.trans p3).size, ?_, (qr.trans p3).alloc _⟩
          intro e
          have e2 : some g = some w3.heap.size := e
          injection e2 with e2
          have := p3.size
          omega
        · go_wp2_with fail
          go_meet
          refine ⟨wr.heap.size, A1, N, c1, true, rfl, rfl, HN.out, HA1.out.back (qr.trans p3), row_q HOw.out (four_q p3 _ _ _ _), (bx.all _ _ _ _).c3, (bx.all _ _ _ _).lt, qr.size, ?_, qr.trans (four_q p3 _ _ _ _)⟩
          intro e
          have e2 : some g = some wr.heap.size := e
          injection e2 with e2
          omega
      case rest =>
        obtain ⟨tb, A1, N, c1, bb, rfl, rfl, hN, hA1, hG⟩ := hcut
        have HG := Lib.hid hG
        have HA1 := Lib.hid hA1
        have HN := Lib.hid hN
        have hNl : N ≤ 100000 := by omega
        clear hG hA1 hN b0 b1 hyc hbl HOw HCO
        go_wp2_with fail
        go_loopw [5, 9, 10] (fun v j _ wr' => ∃ (q : Nat) (al : List Nat), q ≤ N ∧ j = .int .i64 q ∧ al.length ≤ id + 1 ∧ k < al.length ∧ Hid (al[k]? = some y) ∧ Hid (Fnd ks id al k) ∧ Hid (∀ x : Nat, (x : Int) ∈ t.xs.take q → x ∈ al) ∧ Hid (Gt W wr' al v tb A1 N c1)) (fun _ j _ _ => N - (intOf j).toNat)
        case atStart => exact ⟨0, all, Nat.zero_le _, rfl, hal, hlt, Hy, HFd, Lib.hid (fun x hx => by simp at hx), HG⟩
        case round =>
          clear HG
          obtain ⟨q, al, hq, rfl, hal', hlt', Hy', HFd', HIn, HG⟩ := hrel
          have x3 := HG.out.c3
          by_cases hqN : q < N
          · have hqx : q < t.xs.length := by have := HN.out; omega
            obtain ⟨ad, rfl, hba, c0⟩ := (HA1.out.keep HG.out.q).at_ hqx
            obtain ⟨p0, p1⟩ := HP.out _ (List.getElem_mem hqx)
            obtain ⟨x, hx⟩ := Int.eq_ofNat_of_zero_le p0
            have Hx := Lib.hid hx
            have Htk := Lib.hid (mem_take_succ hqx)
            have Hxa : Hid ((x : Int) ∈ argsOf ks y) := by unfold Hid; rw [Ha.out, ← hx]; exact List.getElem_mem hqx
            rw [hx] at c0 p0 p1
            have hxy : x < y := by omega
            obtain ⟨Av, cv', hv, _, hAv⟩ := own_form HG.out.own
            obtain ⟨g', rfl, hg0', hg1', hgc'⟩ := hAv (by omega)
            subst hv
            have HOI : Hid (Ints wr w.heap.size none []) := fun h => absurd h (by simp)
            have HIr : Hid (Ints wr wr.heap.size (some ⟨g', 0, none⟩) (castL al)) := (OwnI.of_own (by have := HG.out.own; exact this)).ints
            have C := refIn_any (some ⟨g', 0, none⟩) al.length cv' (castL al) (x : Int) wr (castL_len al).symm HIr.out (by rw [castL_len]; unfold maxLen; omega)
            have q0i : (0 : Int) ≤ (q : Int) := by omega
            have q1i : (q : Int) < (N : Int) := by omega
            clear hx hAv hgc' HOI
            cases hin : inL (castL al) (x : Int)
            · rw [hin] at C
              have HC := Lib.hid C
              have hno : x ∉ al := fun h => by rw [castL_in.2 h] at hin; cases hin
              have Hno := Lib.hid hno
              have HFp := Lib.hid (HFd'.out.push hlt' Hy'.out Hxa.out hxy hno)
              have Hsb := Lib.hid (src_block (heap_alloc_new wr (.cells #[.int .i64 (x : Int)] 3)))
              have Hown := Lib.hid (HG.out.own.alloc (.cells #[.int .i64 (x : Int)] 3))
              have hWs := HG.out.q.size
              clear C hin hno
              go_wp2_with (first
                | (go_at_call 74; refine HC.out.mono ?_; rintro e w' ⟨rfl, rfl⟩)
                | (at_builtin; refine wpList_append_src _ rfl (.tmp 56) (.tmp 62) _ rfl W.heap.size 3 i0 _ 1 8 Tryz.underlying24 Hi.out Hz0.out Hz1.out Hz2.out rfl (by omega) (.slice (some ⟨g', 0, none⟩) al.length cv') al.length (cellsI (castL al)) rfl Hown.out (some ⟨wr.heap.size, 0, none⟩) 1 1 [.int .i64 (x : Int)] rfl (by simp) Hsb.out (by simp [Value.oneCell']) (by unfold maxLen; omega) (by omega) (by simp; omega) ?_; intro v' w6 own' gr' hv'; have HG6 := Lib.hid (HG.out.push own' gr' hv'); clear own' gr' hv'))
              go_roundw
              case rel => exact ⟨q + 1, al ++ [x], by omega, by go_num, HFp.out.len, by simp; omega, Lib.hid (by rw [List.getElem?_append_left hlt']; exact Hy'.out), HFp, Lib.hid (fun z hz => by
                rcases (Htk.out _).1 hz with h | h
                · exact List.mem_append_left _ (HIn.out z h)
                · rw [Hx.out] at h; obtain rfl : z = x := by omega
                  simp), HG6⟩
              case measure => simp [intOf]; omega
            · rw [hin] at C
              have HC := Lib.hid C
              have Hmem := Lib.hid (castL_in.1 hin)
              clear C hin
              go_wp2_with (go_at_call 74; refine HC.out.mono ?_; rintro e w' ⟨rfl, rfl⟩)
              go_roundw
              case rel => exact ⟨q + 1, al, by omega, by go_num, hal', hlt', Hy', HFd', Lib.hid (fun z hz => by
                rcases (Htk.out _).1 hz with h | h
                · exact HIn.out z h
                · rw [Hx.out] at h; obtain rfl : z = x := by omega
                  exact Hmem.out), HG⟩
              case measure => simp [intOf]; omega
          · have HFn : Hid (Fnd ks id al (k + 1)) := HFd'.out.next Hy'.out fun z hz _ => HIn.out z (by rw [List.take_of_length_le (by have := HN.out; omega), ← Ha.out]; exact hz)
            have HOw' := Lib.hid HG.out.own
            have qr' := HG.out.q
            go_wp2_with fail
            go_roundw
            case rel => exact ⟨k + 1, al, by omega, hal', by go_num, HFn, HOw', qr'⟩
            case measure => simp [intOf]; omega
    · have HAll : Hid (∀ x, x ∈ all ↔ Made ks id x) := fun x => HFd.out.all (by omega) x
      obtain ⟨Av, cv, hv, _, hAv⟩ := own_form HOw.out
      have hpos : 0 < all.length := List.length_pos_of_mem HFd.out.top
      obtain ⟨g, rfl, hg0, hg1, hgc⟩ := hAv hpos
      subst hv
      have HIr : Hid (Ints wr wr.heap.size (some ⟨g, 0, none⟩) (castL all)) := (OwnI.of_own (by have := HOw.out; exact this)).ints
      have Hlc : Hid (all.length = (castL all).length) := (castL_len all).symm
      have id0 : (0 : Int) ≤ (id : Int) := by omega
      obtain ⟨V, hVr⟩ : ∃ V, V = wr := ⟨_, rfl⟩
      subst hVr
      clear hAv hgc
      go_wp2_with fail
      go_loopw [11, 12, 13] (fun v n _ wr' => ∃ (p : Nat), p ≤ id + 1 ∧ n = .int .i64 p ∧ Hid (wr'.ownsRow V.heap.size 3 1 v (upG all p).length (cellsI (castL (upG all p)))) ∧ Q V wr') (fun _ n _ _ => id + 1 - (intOf n).toNat)
      case atStart => exact ⟨0, Nat.zero_le _, rfl, Lib.hid (World.ownsRow_nil _ _ _ _), Q.refl _⟩
      case round =>
        obtain ⟨p, hp, rfl, HO2, qr2⟩ := hrel
        have hlu : (upG all p).length ≤ p := by unfold upG; have := List.length_filter_le (fun x : Nat => inL (castL all) (x : Int)) (List.range p); simpa using this
        by_cases hpi : p ≤ id
        · have C := refIn_any (some ⟨g, 0, none⟩) all.length cv (castL all) (p : Int) wr Hlc.out ((HIr.out.q (Nat.le_refl _) qr2).more qr2.size) (by rw [castL_len]; unfold maxLen; omega)
          cases hin : inL (castL all) (p : Int)
          · rw [hin] at C
            have HC := Lib.hid C
            have HU := Lib.hid (upG_no hin)
            clear C hin
            go_wp2_with (go_at_call 74; refine HC.out.mono ?_; rintro e w' ⟨rfl, rfl⟩)
            go_roundw
            case rel => exact ⟨p + 1, by omega, by go_num, by rw [HU.out]; exact HO2, qr2⟩
            case measure => simp [intOf]; omega
          · rw [hin] at C
            have HC := Lib.hid C
            have HU := Lib.hid (upG_yes hin)
            have Hsb := Lib.hid (src_block (heap_alloc_new wr (.cells #[.int .i64 (p : Int)] 3)))
            have Hown := Lib.hid (HO2.out.alloc (.cells #[.int .i64 (p : Int)] 3))
            have hWs := qr2.size
            clear C hin
            go_wp2_with (first
              | (go_at_call 74; refine HC.out.mono ?_; rintro e w' ⟨rfl, rfl⟩)
              | (at_builtin; refine wpList_append_src _ rfl (.tmp 73) (.tmp 75) _ rfl V.heap.size 3 i0 _ 1 8 Tryz.underlying24 Hi.out Hz0.out Hz1.out Hz2.out rfl (by omega) _ (upG all p).length (cellsI (castL (upG all p))) rfl Hown.out (some ⟨wr.heap.size, 0, none⟩) 1 1 [.int .i64 (p : Int)] rfl (by simp) Hsb.out (by simp [Value.oneCell']) (by unfold maxLen; omega) (by omega) (by simp; omega) ?_; intro v' w6 own' gr' _; have q6 : Q V w6 := (qr2.alloc _).grown gr' (qr2.alloc _).size (fun b hb => (HO2.out.lt b hb).1); have HO6 := Lib.hid own'; clear own' gr'))
            go_roundw
            case rel => exact ⟨p + 1, by omega, by go_num, by rw [HU.out, List.length_append, castL_snoc, ← snocI]; exact HO6, q6⟩
            case measure => simp [intOf]; omega
        · obtain rfl : p = id + 1 := by omega
          have HBl : Hid (belowL ks id = castL (upG all (id + 1))) := (below_is ks id).unique ⟨fun x : Nat => inL (castL all) (x : Int), fun x => by rw [castL_in]; exact HAll.out x, rfl⟩
          go_wp2_with fail
          go_ret
          obtain ⟨A9, c9, h9, _, hA9⟩ := own_form HO2.out
          refine ⟨A9, c9, ?_, ?_, (q0.trans qr).trans qr2⟩
          · rw [HBl.out, castL_len, ← h9]; rfl
          · rw [HBl.out]
            intro h0
            rw [castL_len] at h0
            obtain ⟨g9, rfl, _, hl9, hc9⟩ := hA9 h0
            exact ⟨_, rfl, hl9, fun i x hx => by rw [add_zero_head]; exact (hc9 i _ (by unfold cellsI; rw [List.getElem?_map, hx]; rfl)).1⟩
end Go.Proofs.YtdmdcggmgipdbaaGreatDoor.Tm

namespace Go.Proofs.YtdmdcggmgipdbaaGreatDoor.Tm
open Go.RowKit Kit Hs

set_option maxRecDepth 100000 in
set_option maxHeartbeats 1000000 in
theorem refBelow_out (A S : Option Addr) (c m d : Nat) (ks : List (List Int)) (id : Int) (w : World) (hid : isPl id ks.length = false) :
    Calls Tryz.prog 38 #[.agg #[.slice A ks.length c, .slice S m d], .int .i64 id] w (RowPost [] w) := by
  have q0 := (Q.refl w).alloc (Obj.cells #[Value.slice A ks.length c, Value.slice S m d] 26)
  by_cases h0 : id < 0
  · have d0 : decide (id < 0) = true := decide_eq_true h0
    clear h0 hid
    go_enter Tryz.func38, Tryz.ntmps38
    go_wp2_with fail
    go_ret
    exact ⟨none, 0, rfl, fun h => absurd h (by simp), q0⟩
  · have h1 : ¬ id < (ks.length : Int) := fun h => by
      have := (isPl_iff id ks.length).2 ⟨by omega, h⟩
      rw [hid] at this; cases this
    have d0 : decide (id < 0) = false := decide_eq_false h0
    have d1 : decide ((ks.length : Int) ≤ id) = true := decide_eq_true (by omega)
    clear h0 h1 hid
    go_enter Tryz.func38, Tryz.ntmps38
    go_wp2_with fail
    go_ret
    exact ⟨none, 0, rfl, fun h => absurd h (by simp), q0⟩
theorem refBelow_any (A S : Option Addr) (n c m d : Nat) (l : List Sg.Sig) (ks : List (List Int)) (id : Int) (w : World) (hn : n = ks.length) (hk : Keys w w.heap.size A ks) (hst : Store l ks) (hl : ks.length ≤ 5000) (hs : ∀ k ∈ ks, k.length ≤ 100000) :
    Calls Tryz.prog 38 #[.agg #[.slice A n c, .slice S m d], .int .i64 id] w (RowPost (belowI ks id) w) := by
  subst hn
  unfold belowI
  cases hp : isPl id ks.length
  · exact refBelow_out A S c m d ks id w hp
  · obtain ⟨h0, h1⟩ := (isPl_iff _ _).1 hp
    obtain ⟨i, rfl⟩ := Int.eq_ofNat_of_zero_le h0
    exact refBelow_in A S c m d l ks i w hk hst (by omega) hl hs
end Go.Proofs.YtdmdcggmgipdbaaGreatDoor.Tm

namespace Go.Proofs.YtdmdcggmgipdbaaGreatDoor.Ld
open Go.RowKit Kit Rw
open Go.Proofs.YtdmdcggmgipdbaaGreatDoor.Hs (Keys Ints BoxT)
open Go.Proofs.YtdmdcggmgipdbaaGreatDoor.Tm (Tm Store ofKey termAt LookB refOfB_any RowPost)
open Go.Proofs.YtdmdcggmgipdbaaGreatDoor.Ex (cellsI intInfo own_int cellsI_append)
theorem termAt_ok {L : List Sg.Sig} {ks : List (List Int)} (hS : Store L ks) {i : Nat} (h : i < ks.length) : termAt ks (i : Int) = some (tmP ks i) := by
  have hk := List.getElem?_eq_getElem h
  obtain ⟨h3, _⟩ := parts_ahead hS hk
  rw [Tm.termAt_at h h3]
  unfold tmP
  rw [hk]; rfl
theorem tmP_at {ks : List (List Int)} {i : Nat} (h : i < ks.length) : tmP ks i = ofKey ks[i] := by
  unfold tmP
  rw [List.getElem?_eq_getElem h]; rfl
set_option maxRecDepth 100000 in
set_option maxHeartbeats 4000000 in
theorem refSize_any (A S : Option Addr) (n c m d : Nat) (L : List Sg.Sig) (ks : List (List Int)) (id : Nat) (w : World) (hn : n = ks.length) (hk : Keys w w.heap.size A ks) (hS : Store L ks) (hid : id < ks.length) (hl : ks.length ≤ 5000) (hxl : ∀ k ∈ ks, k.length ≤ 100000) :
    Calls Tryz.prog 40 #[.agg #[.slice A n c, .slice S m d], .int .i64 (id : Int)] w (RowPost (sizesF ks (id + 1)) w) := by
  subst hn
  obtain ⟨i0, hi, hz0, hz1, hz2⟩ := info_parts intInfo
  have Hi := Lib.hid hi
  have Hz0 := Lib.hid hz0
  have Hz1 := Lib.hid hz1
  have Hz2 := Lib.hid hz2
  clear hi hz0 hz1 hz2
  have q0 := (Q.refl w).alloc (Obj.cells #[Value.slice A ks.length c, Value.slice S m d] 26)
  have HK := Lib.hid (hk.q (Nat.le_refl _) q0)
  have HT := Lib.hid (BoxT.new w (Value.slice A ks.length c) (Value.slice S m d) 26)
  have HS := Lib.hid hS
  have HX := Lib.hid hxl
  have HQ0 := Lib.hid q0
  clear hk hS hxl q0
  go_enter Tryz.func40, Tryz.ntmps40
  go_wp2_with fail
  generalize w.alloc (Obj.cells #[Value.slice A ks.length c, Value.slice S m d] 26) = W0 at *
  go_loopw [5, 6] (fun out i wr => ∃ (k : Nat) (v : Value), k ≤ id + 1 ∧ i = .int .i64 k ∧ v = out ∧ Hid (wr.ownsRow W0.heap.size 3 1 v k (cellsI (sizesF ks k))) ∧ Hid (Q W0 wr)) (fun _ i _ => id + 1 - (intOf i).toNat)
  case atStart => exact ⟨0, _, Nat.zero_le _, rfl, rfl, Lib.hid (own_nil W0 _ _ _), Q.refl _⟩
  case round =>
    obtain ⟨k, v, hk, rfl, rfl, HO, HQ⟩ := hrel
    by_cases hlt : k < id + 1
    · have hkl : k < ks.length := by omega
      have CO := Lib.hid (refOfB_any w.heap.size A S ks.length c m d ks (k : Int) wr rfl (HK.out.q (by have := HQ0.out.size; exact this) HQ.out) (Nat.le_trans HQ0.out.size HQ.out.size))
      have e2 := termAt_ok HS.out hkl
      unfold LookB at CO
      rw [e2] at CO
      simp only [Option.getD_some, Option.isSome_some] at CO
      have b0 := (HT.out.q HQ.out).c0
      have b1 := (HT.out.q HQ.out).c1
      have d1 : decide ((k : Int) ≤ (id : Int)) = true := decide_eq_true (by omega)
      have d1' : decide (k ≤ id) = true := decide_eq_true (by omega)
      have hmz := mz_eq HS.out (List.getElem?_eq_getElem hkl)
      have hpa := (parts_ahead HS.out (List.getElem?_eq_getElem hkl)).2.2
      have hxs : (ofKey ks[k]).xs.length ≤ 100000 := by
        have := HX.out ks[k] (List.getElem_mem hkl)
        unfold ofKey
        simp only [List.length_drop]
        omega
      rw [← tmP_at hkl] at hmz hpa hxs
      generalize tmP ks k = t at *
      go_wp2_with fail
      refine CO.out.mono ?_
      rintro e w3 ⟨A3, n3, c3, rfl, rfl, hi3, q3⟩
      have hQ4 := HQ.out.trans (q3.alloc (Obj.cells #[.int .i64 t.k, .int .i64 t.s, .int .i64 t.p, .slice A3 t.xs.length c3] 77))
      have HQ4 := Lib.hid hQ4
      have HO4 := Lib.hid (row_kept HO.out (q3.alloc (Obj.cells #[.int .i64 t.k, .int .i64 t.s, .int .i64 t.p, .slice A3 t.xs.length c3] 77)) (Nat.le_refl _))
      have hi4 : Ints (w3.alloc (Obj.cells #[.int .i64 t.k, .int .i64 t.s, .int .i64 t.p, .slice A3 t.xs.length c3] 77)) w.heap.size A3 t.xs := hi3.q (Nat.le_trans (Nat.le_trans HQ0.out.size HQ.out.size) q3.size) ((Q.refl w3).alloc _)
      have HI4 := Lib.hid hi4
      have HB : Hid ((w3.alloc (Obj.cells #[.int .i64 t.k, .int .i64 t.s, .int .i64 t.p, .slice A3 t.xs.length c3] 77)).cell? ⟨w3.heap.size, 3, none⟩ = some (.slice A3 t.xs.length c3)) := by unfold Hid; simp
      clear hi3 hi4 q3 hQ4 HO HQ CO b0 b1
      go_wp2_with fail
      generalize hB : w3.heap.size = B3 at *
      generalize w3.alloc (Obj.cells #[.int .i64 t.k, .int .i64 t.s, .int .i64 t.p, .slice A3 t.xs.length c3] 77) = w4 at *
      clear hB
      go_loopw [9, 10] (fun nv i wr2 => ∃ (j nn : Nat), j ≤ t.xs.length ∧ i = .int .i64 j ∧ nv = .int .i64 nn ∧ nn ≤ 1 + 1000 * j ∧ Hid (1 + sumM ks t.xs = nn + sumM ks (t.xs.drop j)) ∧ w4 = wr2) (fun _ i _ => t.xs.length - (intOf i).toNat)
      case atStart => exact ⟨0, 1, Nat.zero_le _, rfl, rfl, by omega, Lib.hid (by simp), rfl⟩
      case round =>
        obtain ⟨j, nn, hj, rfl, rfl, hnn, HN, rfl⟩ := hrel
        have b3 := HB.out
        by_cases hjl : j < t.xs.length
        · obtain ⟨ad, rfl, hb, c0⟩ := HI4.out.at_ hjl
          have hdrop : t.xs.drop j = t.xs[j] :: t.xs.drop (j + 1) := List.drop_eq_getElem_cons hjl
          obtain ⟨x0, x1⟩ := hpa t.xs[j] (List.getElem_mem hjl)
          obtain ⟨y, hy⟩ := Int.eq_ofNat_of_zero_le x0
          have hyk : y < k := by omega
          obtain ⟨g, c', rfl, hcell⟩ := own_int (k := y) HO4.out (sizesF_len ks k).symm (by rw [sizesF_len]; exact hyk)
          rw [sizesF_at ks k y hyk] at hcell
          have HN2 : Hid (1 + sumM ks t.xs = (nn + mz ks y) + sumM ks (t.xs.drop (j + 1))) := by
            have := HN.out
            rw [hdrop] at this
            simp only [sumM] at this
            rw [hy, Int.toNat_natCast] at this
            unfold Hid
            omega
          rw [hy] at c0
          have hm1 : mz ks y ≤ 1000 := by unfold mz; omega
          generalize mz ks y = q at *
          clear hdrop x0 x1 HN hy hpa
          go_wp2_with fail
          go_roundw
          case rel => exact ⟨j + 1, nn + q, by omega, by go_num, by go_num, by omega, HN2, by trivial⟩
          case measure => simp [intOf]; omega
        · have hjx : j = t.xs.length := by omega
          have hsum : 1 + sumM ks t.xs = nn := by
            have := HN.out
            rw [List.drop_of_length_le (by omega)] at this
            simpa [sumM] using this
          rw [hsum] at hmz
          have hfew : k ≤ 5000 := by omega
          by_cases hc : 1000 < nn
          · have hx : mz ks k = 1000 := by omega
            have HNX : Hid (sizesF ks (k + 1) = sizesF ks k ++ [(1000 : Int)]) := by
              have := sizesF_next ks k
              rw [hx] at this
              exact this
            clear hx hmz hsum HN hpa hjx
            have hc1 : (1000 : Int) < (nn : Int) := by omega
            have HQ5 := Lib.hid (HQ4.out.alloc (Obj.cells #[.int .i64 1000] 3))
            have HO5 := Lib.hid (row_kept HO4.out ((Q.refl w4).alloc (Obj.cells #[.int .i64 1000] 3)) (Nat.le_refl _))
            have HS5 : Hid (Src (w4.alloc (Obj.cells #[.int .i64 1000] 3)) (some ⟨w4.heap.size, 0, none⟩) [.int .i64 1000]) := src_alloc w4 _ _ _
            go_wp2_with (at_builtin; refine wpList_append_src _ rfl (.tmp 39) (.tmp 42) _ rfl W0.heap.size 3 i0 _ 1 8 Tryz.underlying24 Hi.out Hz0.out Hz1.out Hz2.out rfl (by omega) v k (cellsI (sizesF ks k)) rfl HO5.out (some ⟨w4.heap.size, 0, none⟩) 1 1 [.int .i64 1000] rfl rfl HS5.out (by simp [Value.oneCell']) (by unfold maxLen; omega) (by omega) HQ5.out.size ?_; intro v' w' own' gr' _; have Own := Lib.hid own'; have HQ' : Hid (Q W0 w') := Below.grown HQ5.out gr' HQ5.out.size (fun i e => (HO5.out.lt i e).1); clear own' gr')
            go_roundw
            case rel => exact ⟨k + 1, v', by omega, by go_num, rfl, by rw [HNX.out, cellsI_append]; exact Own, HQ'⟩
            case measure => simp [intOf]; omega
          · have hx : mz ks k = nn := by omega
            have HNX : Hid (sizesF ks (k + 1) = sizesF ks k ++ [(nn : Int)]) := by
              have := sizesF_next ks k
              rw [hx] at this
              exact this
            have hfn : nn ≤ 1000 := by omega
            clear hx hmz hsum HN hpa hjx
            have hc1 : ¬ (1000 : Int) < (nn : Int) := by omega
            have HQ5 := Lib.hid (HQ4.out.alloc (Obj.cells #[.int .i64 (nn : Int)] 3))
            have HO5 := Lib.hid (row_kept HO4.out ((Q.refl w4).alloc (Obj.cells #[.int .i64 (nn : Int)] 3)) (Nat.le_refl _))
            have HS5 : Hid (Src (w4.alloc (Obj.cells #[.int .i64 (nn : Int)] 3)) (some ⟨w4.heap.size, 0, none⟩) [.int .i64 (nn : Int)]) := src_alloc w4 _ _ _
            go_wp2_with (at_builtin; refine wpList_append_src _ rfl (.tmp 39) (.tmp 42) _ rfl W0.heap.size 3 i0 _ 1 8 Tryz.underlying24 Hi.out Hz0.out Hz1.out Hz2.out rfl (by omega) v k (cellsI (sizesF ks k)) rfl HO5.out (some ⟨w4.heap.size, 0, none⟩) 1 1 [.int .i64 (nn : Int)] rfl rfl HS5.out (by simp [Value.oneCell']) (by unfold maxLen; omega) (by omega) HQ5.out.size ?_; intro v' w' own' gr' _; have Own := Lib.hid own'; have HQ' : Hid (Q W0 w') := Below.grown HQ5.out gr' HQ5.out.size (fun i e => (HO5.out.lt i e).1); clear own' gr')
            go_roundw
            case rel => exact ⟨k + 1, v', by omega, by go_num, rfl, by rw [HNX.out, cellsI_append]; exact Own, HQ'⟩
            case measure => simp [intOf]; omega
    · obtain ⟨A', c', rfl, hc, hR⟩ := own_read HO.out
      obtain rfl : k = id + 1 := by omega
      have HRd := Lib.hid hR
      have d1 : decide (((id + 1 : Nat) : Int) ≤ (id : Int)) = false := decide_eq_false (by omega)
      have d1' : decide (id + 1 ≤ id) = false := decide_eq_false (by omega)
      clear hR
      go_wp2_with fail
      go_ret
      refine ⟨A', c', by rw [sizesF_len]; rfl, ?_, HQ0.out.trans HQ.out⟩
      intro h0
      rw [sizesF_len] at h0
      obtain ⟨ad, e, hb, hcl⟩ := HRd.out (by rw [Ex.cellsI_len, sizesF_len]; exact h0)
      refine ⟨ad, e, hb, fun i x hx => hcl i _ ?_⟩
      unfold cellsI
      rw [List.getElem?_map, hx]; rfl
end Go.Proofs.YtdmdcggmgipdbaaGreatDoor.Ld

namespace Go.Proofs.YtdmdcggmgipdbaaGreatDoor.Ex
open Go.RowKit Kit Rw

theorem nodeInfo : (Tryz.prog.info? 67).map (fun i => (i.zero, i.size, i.bytes)) = some (some (.agg #[.int .i64 0, .string ⟨#[]⟩, .int .i64 0]), 3, 32) := by kernel_rfl
theorem own_slice {w : World} {base : Nat} {e : TypeId} {size : Nat} {v : Value} {n : Nat} {xs : List Value} (h : w.ownsRow base e size v n xs) (hn : 0 < n) : ∃ g cap, v = .slice (some ⟨g, 0, none⟩) n cap := by
  obtain ⟨_, ⟨_, h0⟩ | ⟨g, cap, cur, e, _⟩⟩ := h
  · omega
  · exact ⟨g, cap, e⟩
end Go.Proofs.YtdmdcggmgipdbaaGreatDoor.Ex

namespace Go.Proofs.YtdmdcggmgipdbaaGreatDoor.Ld
open Go.RowKit Kit Rw
open Go.Proofs.YtdmdcggmgipdbaaGreatDoor.Sg (Sig Row)
open Go.Proofs.YtdmdcggmgipdbaaGreatDoor.Tm (Tm Store ofKey mayB standB arity arity_at isPl isPl_iff)
open Go.Proofs.YtdmdcggmgipdbaaGreatDoor.Ex (Ex)
def RowV (w : World) (g : Nat) (v : Value) (l : List Tg) : Prop := ∃ A c, v = .slice A l.length c ∧ (0 < l.length → ∃ ad : Addr, A = some ad ∧ g < ad.block ∧ ad.block < w.heap.size ∧ ∀ j x, (cellsG l)[j]? = some x → w.cell? (ad.add j) = some x)
theorem RowV.q {w w' : World} {g : Nat} {v : Value} {l : List Tg} (h : RowV w g v l) (q : Q w w') : RowV w' g v l := by
  obtain ⟨A, c, rfl, k⟩ := h
  refine ⟨A, c, rfl, fun h0 => ?_⟩
  obtain ⟨ad, e, h1, h2, h3⟩ := k h0
  exact ⟨ad, e, h1, Nat.lt_of_lt_of_le h2 q.size, fun j x hx => (q.cell (by rw [add_block]; exact h2)).trans (h3 j x hx)⟩
theorem RowV.set {w : World} {g : Nat} {v : Value} {l : List Tg} (h : RowV w g v l) (y : Nat) (u : Value) : RowV (w.setCell ⟨g, y, none⟩ u) g v l := by
  obtain ⟨A, c, rfl, k⟩ := h
  refine ⟨A, c, rfl, fun h0 => ?_⟩
  obtain ⟨ad, e, h1, h2, h3⟩ := k h0
  exact ⟨ad, e, h1, by simpa [World.setCell] using h2, fun j x hx => (World.cell?_setCell_far _ _ _ _ (by rw [add_block]; exact Nat.ne_of_lt h1)).trans (h3 j x hx)⟩
theorem RowV.rds {w : World} {g : Nat} {v : Value} {l : List Tg} (h : RowV w g v l) : ∃ A c, v = .slice A l.length c ∧ Rds w w.heap.size A (cellsG l) := by
  obtain ⟨A, c, e, k⟩ := h
  refine ⟨A, c, e, fun h0 => ?_⟩
  obtain ⟨ad, e, _, h2, h3⟩ := k (by rw [cellsG_len] at h0; omega)
  exact ⟨ad, e, h2, h3⟩
theorem RowV.of_own {w : World} {g base : Nat} {t : TypeId} {v : Value} {l : List Tg} {n : Nat} (h : w.ownsRow base t 3 v n (cellsG l)) (hn : n = l.length) (hb : g < base) : RowV w g v l := by
  subst hn
  obtain ⟨A, c, rfl, _, hr⟩ := own_read h
  refine ⟨A, c, rfl, fun h0 => ?_⟩
  obtain ⟨g', cap, e⟩ := Ex.own_slice h h0
  rw [e] at h
  injection e with e1 e2 e3
  subst e1
  obtain ⟨ad, e, h2, h3⟩ := hr (by rw [cellsG_len]; omega)
  injection e with e
  subst e
  exact ⟨_, rfl, Nat.lt_of_lt_of_le hb (h.lt g' rfl).1, h2, h3⟩

def Tab (w : World) (g n : Nat) (D : List Nat) (V : Nat → List Tg) : Prop := ∃ cs : List Value, OwnC w g cs ∧ cs.length = n ∧ ∀ y ∈ D, ∃ v, cs[y]? = some v ∧ RowV w g v (V y)
theorem Tab.q {w w' : World} {g n : Nat} {D : List Nat} {V : Nat → List Tg} (h : Tab w g n D V) (q : Q w w') : Tab w' g n D V := by
  obtain ⟨cs, h1, h2, h3⟩ := h
  exact ⟨cs, h1.q q, h2, fun y hy => by obtain ⟨v, a, b⟩ := h3 y hy; exact ⟨v, a, b.q q⟩⟩
theorem Tab.put {w : World} {g n : Nat} {D : List Nat} {V : Nat → List Tg} (h : Tab w g n D V) {y : Nat} (hy : y < n) {v : Value} (hv : RowV w g v (V y)) : Tab (w.setCell ⟨g, y, none⟩ v) g n (D ++ [y]) V := by
  obtain ⟨cs, h1, h2, h3⟩ := h
  refine ⟨cs.set y v, h1.set (by omega) v, by simpa using h2, fun z hz => ?_⟩
  by_cases hzy : z = y
  · subst hzy
    exact ⟨v, List.getElem?_set_self (by omega), hv.set _ _⟩
  · obtain ⟨u, a, b⟩ := h3 z (by simpa [hzy] using hz)
    exact ⟨u, by rw [List.getElem?_set_ne (fun e => hzy e.symm)]; exact a, b.set _ _⟩
theorem Tab.at_ {w : World} {g n : Nat} {D : List Nat} {V : Nat → List Tg} (h : Tab w g n D V) {y : Nat} (hy : y ∈ D) : ∃ A c, w.cell? ⟨g, y, none⟩ = some (.slice A (V y).length c) ∧ Rds w w.heap.size A (cellsG (V y)) := by
  obtain ⟨cs, h1, h2, h3⟩ := h
  obtain ⟨v, a, b⟩ := h3 y hy
  obtain ⟨A, c, e, hr⟩ := b.rds
  exact ⟨A, c, by rw [← e]; exact (h1.2 y v a).1, hr⟩
theorem Tab.thaw {w : World} {g n : Nat} {D : List Nat} {V : Nat → List Tg} (h : Tab w g n D V) {y : Nat} (hy : y < n) : w.frozen? ⟨g, y, none⟩ = false ∧ ∃ v, w.cell? ⟨g, y, none⟩ = some v := by
  obtain ⟨cs, h1, h2, _⟩ := h
  have := h1.2 y _ (List.getElem?_eq_getElem (by omega))
  exact ⟨this.2, _, this.1⟩
theorem Tab.lt {w : World} {g n : Nat} {D : List Nat} {V : Nat → List Tg} (h : Tab w g n D V) : g < w.heap.size := by
  obtain ⟨cs, h1, _⟩ := h
  exact h1.1
theorem Tab.made (w : World) (n : Nat) (t : TypeId) (V : Nat → List Tg) : Tab (w.alloc (.cells (madeCells #[.slice none 0 0] n) t)) w.heap.size n [] V := by
  refine ⟨List.replicate n (.slice none 0 0), ⟨by simp, fun i x hx => ?_⟩, by simp, fun y hy => by cases hy⟩
  have hi : i < n := by have := (List.getElem?_eq_some_iff.1 hx).1; simpa using this
  have e : x = .slice none 0 0 := by rw [List.getElem?_replicate, if_pos hi] at hx; simpa using hx.symm
  subst e
  refine ⟨?_, World.frozen?_alloc_at _ _ _ _ rfl⟩
  rw [cell_of_row _ _ _ _ _ _ (heap_alloc_new w _)]
  simp [madeCells, hi, Nat.mod_one]
theorem rowsInfo : (Tryz.prog.info? 33).map (fun i => (i.zero, i.size, i.bytes)) = some (some (.slice none 0 0), 1, 24) := by kernel_rfl
theorem make_rows (n : Nat) (hn : n ≤ 1000000) (u : World) : (Instr.makeSlice 82 (.int .i64 (n : Int)) (.int .i64 (n : Int))).run Tryz.prog u = .ok (.slice (some ⟨u.heap.size, 0, none⟩) n n) (u.alloc (.cells (madeCells #[.slice none 0 0] n) 33)) := by
  obtain ⟨i0, hi, hz0, hz1, hz2⟩ := info_parts rowsInfo
  have h := run_make (P := Tryz.prog) u 82 33 i0 _ Tryz.underlying82 hi hz0 .i64 .i64 (n : Int) (n : Int) (by omega) (by omega) (by rw [hz2]; omega) (by omega)
  rw [hz1, Nat.mul_one] at h
  exact h

/-- what a term of a store has -/
theorem term_has {L : List Sig} {ks : List (List Int)} (hS : Store L ks) (hl8 : ∀ s ∈ L, s.2.size ≤ 8) {y : Nat} (hy : y < ks.length) :
    ((tmP ks y).k = 2 → 0 ≤ (tmP ks y).s) ∧ ((tmP ks y).k = 3 ∨ (tmP ks y).k = 6 → 0 ≤ (tmP ks y).s ∧ (tmP ks y).s < (L.length : Int)) ∧ ((tmP ks y).k = 6 → 0 ≤ (tmP ks y).p ∧ (tmP ks y).p ≤ 1000) := by
  have hM := (parts_ahead hS (List.getElem?_eq_getElem hy)).2.1
  rw [← tmP_at hy] at hM
  generalize tmP ks y = t at *
  unfold mayB at hM
  simp only [Bool.and_eq_true] at hM
  obtain ⟨⟨hst, _⟩, _⟩ := hM
  unfold standB at hst
  refine ⟨fun h => ?_, fun h => ?_, fun h => ?_⟩
  · rw [if_pos h] at hst
    simp only [Bool.and_eq_true, decide_eq_true_eq] at hst
    exact hst.1
  · rcases h with h | h
    · rw [if_neg (by omega), if_pos h] at hst
      simp only [Bool.and_eq_true, isPl_iff] at hst
      exact hst.1
    · rw [if_neg (by omega), if_neg (by omega), if_pos h] at hst
      simp only [Bool.and_eq_true, isPl_iff] at hst
      exact hst.1
  · rw [if_neg (by omega), if_neg (by omega), if_pos h] at hst
    simp only [Bool.and_eq_true, isPl_iff] at hst
    obtain ⟨⟨a, b⟩, c, d⟩ := hst
    obtain ⟨j, hj⟩ := Int.eq_ofNat_of_zero_le a
    rw [hj] at d b
    have hjl : j < L.length := by omega
    rw [arity_at hjl] at d
    have := hl8 _ (List.getElem_mem hjl)
    omega
/-- a place's nodes -/
def ndV (L : List Sig) (names : List ByteArray) (ks : List (List Int)) (y : Nat) : List Tg := (exP L names ks y).nodes
theorem ndV_len (L : List Sig) (names : List ByteArray) (ks : List (List Int)) (y : Nat) : (ndV L names ks y).length = szP ks y := by
  rw [← size_any L names ks y]; rfl
/-- what a round of the document's Nodes wants to know of a term -/
structure At9 (L : List Sig) (names : List ByteArray) (ks : List (List Int)) (D : List Nat) (i y : Nat) (t : Tm) : Prop where
  nd : ndV L names ks y = partsV L names ks t.xs ++ [oneN L names t]
  xs : ∀ a ∈ t.xs, 0 ≤ a ∧ a.toNat ∈ D ∧ a.toNat < i + 1 ∧ szP ks a.toNat ≤ 300
  sz : sumZ ks t.xs ≤ 299
  c2 : t.k = 2 → 0 ≤ t.s ∧ t.s < (names.length : Int)
  c3 : t.k = 3 ∨ t.k = 6 → 0 ≤ t.s ∧ t.s < (L.length : Int)
  c6 : t.k = 6 → 0 ≤ t.p ∧ t.p ≤ 1000
theorem at9 {L : List Sig} {names : List ByteArray} {ks : List (List Int)} {bl : List Nat} {i k : Nat} (hS : Store L ks) (hl8 : ∀ s ∈ L, s.2.size ≤ 8) (hil : i < ks.length) (hV : VarsIn names ks i)
    (hso : bl.Pairwise (· < ·)) (hm : ∀ y, y ∈ bl ↔ Tm.Made ks i y) (h3 : szP ks i ≤ 300) (hk : k < bl.length) : At9 L names ks (bl.take k) i bl[k] (tmP ks bl[k]) := by
  have hM := (hm bl[k]).1 (List.getElem_mem hk)
  have hyl := hM.le
  have hy : bl[k] < ks.length := by omega
  have hz := below_size hS hil hM
  obtain ⟨a, b, c⟩ := term_has hS hl8 hy
  have hq := szP_eq hS (List.getElem?_eq_getElem hy)
  rw [← tmP_at hy] at hq
  refine ⟨nodes_eq hS hy, fun x hx => ?_, by omega, fun h => ⟨a h, hV _ hM h⟩, b, c⟩
  obtain ⟨p, q, r⟩ := part_small hS hy hx
  obtain ⟨m, n⟩ := made_part hS hy hM hx
  have h4 := below_size hS hil m
  exact ⟨p, sorted_ahead hso hk ((hm _).2 m) n, by omega, by omega⟩
end Go.Proofs.YtdmdcggmgipdbaaGreatDoor.Ld

namespace Go.Proofs.YtdmdcggmgipdbaaGreatDoor.Ld
open Go.RowKit Kit Rw
open Go.Proofs.YtdmdcggmgipdbaaGreatDoor.Sg (Sig Row)
open Go.Proofs.YtdmdcggmgipdbaaGreatDoor.Tm (Tm)
open Go.Proofs.YtdmdcggmgipdbaaGreatDoor.Ex (cellsS str_at)
theorem one_2 (L : List Sig) (names : List ByteArray) {t : Tm} (h : t.k = 2) : oneN L names t = (2, names[t.s.toNat]?.getD ⟨#[]⟩, 0) := by unfold oneN; rw [if_pos h]
theorem one_3 (L : List Sig) (names : List ByteArray) {t : Tm} (h : t.k = 3) : oneN L names t = (3, nameP L t.s, (t.xs.length : Int)) := by unfold oneN; rw [if_neg (by omega), if_pos h]
theorem one_45 (L : List Sig) (names : List ByteArray) {t : Tm} (h : t.k = 4 ∨ t.k = 5) : oneN L names t = (t.k, ⟨#[]⟩, 2) := by unfold oneN; rw [if_neg (by omega), if_neg (by omega), if_pos h]
theorem one_6 (L : List Sig) (names : List ByteArray) {t : Tm} (h : t.k = 6) : oneN L names t = (6, nameP L t.s, t.p + 1) := by unfold oneN; rw [if_neg (by omega), if_neg (by omega), if_neg (by omega), if_pos h]
theorem one_else (L : List Sig) (names : List ByteArray) {t : Tm} (h : ¬ (t.k = 2 ∨ t.k = 3 ∨ t.k = 4 ∨ t.k = 5 ∨ t.k = 6)) : oneN L names t = (t.k, ⟨#[]⟩, 0) := by
  unfold oneN; rw [if_neg (by omega), if_neg (by omega), if_neg (by omega), if_neg (by omega)]
theorem nameP_at {L : List Sig} {j : Nat} (h : j < L.length) : nameP L (j : Int) = L[j].1 := by
  unfold nameP
  rw [Int.toNat_natCast, List.getElem?_eq_getElem h]; rfl
set_option maxRecDepth 100000 in
set_option maxHeartbeats 2000000 in
theorem refOne_any (A B E : Option Addr) (na ca nb cb ne ce : Nat) (L : List Sig) (names : List ByteArray) (t : Tm) (w : World) (hna : na = L.length) (hL : Row w w.heap.size A L) (hnb : nb = names.length) (hN : Rds w w.heap.size B (cellsS names)) (hne : ne = t.xs.length)
    (h2 : t.k = 2 → 0 ≤ t.s ∧ t.s < (names.length : Int)) (h3 : t.k = 3 ∨ t.k = 6 → 0 ≤ t.s ∧ t.s < (L.length : Int)) (hp : t.k = 6 → 0 ≤ t.p ∧ t.p ≤ 1000) :
    Calls Tryz.prog 41 #[.slice A na ca, .slice B nb cb, .agg #[.int .i64 t.k, .int .i64 t.s, .int .i64 t.p, .slice E ne ce]] w fun e w' => e = .returned (.agg #[.int .i64 (oneN L names t).1, .string (oneN L names t).2.1, .int .i64 (oneN L names t).2.2]) ∧ Q w w' := by
  subst hna hnb hne
  by_cases k2 : t.k = 2
  · obtain ⟨s0, s1⟩ := h2 k2
    obtain ⟨j, hj⟩ := Int.eq_ofNat_of_zero_le s0
    have hjl : j < names.length := by omega
    obtain ⟨ad, rfl, hb, c0⟩ := str_at hN hjl
    have HO : Hid (oneN L names t = (2, names[j], 0)) := by
      have := one_2 L names k2
      rw [hj, Int.toNat_natCast, List.getElem?_eq_getElem hjl] at this
      exact this
    rw [HO.out, k2, hj]
    have q0 := ((Q.refl w).alloc (Obj.cells #[.int .i64 2, .int .i64 (j : Int), .int .i64 t.p, .slice E t.xs.length ce] 77)).alloc (Obj.cells #[.int .i64 0, .string ⟨#[]⟩, .int .i64 0] 67)
    have c0' := (q0.cell (p := ad.add j) (by rw [Rw.add_block]; exact hb)).trans c0
    clear h2 h3 hp hL hN s0 s1 c0
    go_enter Tryz.func41, Tryz.ntmps41
    go_wp2_with fail
    exact bodyPost_ret (v := .agg #[.int .i64 2, .string names[j], .int .i64 0]) (by simp [results, Tryz.f41, go_sem]) rfl ⟨rfl, ((Q.refl w).alloc _).alloc _⟩
  · by_cases k3 : t.k = 3
    · obtain ⟨s0, s1⟩ := h3 (.inl k3)
      obtain ⟨j, hj⟩ := Int.eq_ofNat_of_zero_le s0
      have hjl : j < L.length := by omega
      obtain ⟨ad, rfl, hb, c0, _⟩ := hL.at_ hjl
      have HO : Hid (oneN L names t = (3, L[j].1, (t.xs.length : Int))) := by
        have := one_3 L names k3
        rw [hj, nameP_at hjl] at this
        exact this
      rw [HO.out, k3, hj]
      have q0 := ((Q.refl w).alloc (Obj.cells #[.int .i64 3, .int .i64 (j : Int), .int .i64 t.p, .slice E t.xs.length ce] 77)).alloc (Obj.cells #[.int .i64 0, .string ⟨#[]⟩, .int .i64 0] 67)
      have c0' := (q0.cell (p := ad.add (j * 2)) (by rw [Rw.add_block]; exact hb)).trans c0
      clear h2 h3 hp hL hN s0 s1 c0 k2
      go_enter Tryz.func41, Tryz.ntmps41
      go_wp2_with fail
      go_region
      all_goals go_wp2_with fail
      exact bodyPost_ret (v := .agg #[.int .i64 3, .string L[j].1, .int .i64 (t.xs.length : Int)]) (by simp [results, Tryz.f41, go_sem]) rfl ⟨rfl, (((Q.refl w).alloc _).alloc _).drew⟩
    · by_cases k6 : t.k = 6
      · obtain ⟨s0, s1⟩ := h3 (.inr k6)
        obtain ⟨p0, p1⟩ := hp k6
        obtain ⟨j, hj⟩ := Int.eq_ofNat_of_zero_le s0
        have hjl : j < L.length := by omega
        obtain ⟨ad, rfl, hb, c0, _⟩ := hL.at_ hjl
        have HO : Hid (oneN L names t = (6, L[j].1, t.p + 1)) := by
          have := one_6 L names k6
          rw [hj, nameP_at hjl] at this
          exact this
        have hwr : IntKind.i64.wrap (t.p + 1) = t.p + 1 := IntWalk.i64_in _ (by omega)
        rw [HO.out, k6, hj]
        have q0 := ((Q.refl w).alloc (Obj.cells #[.int .i64 6, .int .i64 (j : Int), .int .i64 t.p, .slice E t.xs.length ce] 77)).alloc (Obj.cells #[.int .i64 0, .string ⟨#[]⟩, .int .i64 0] 67)
        have c0' := (q0.cell (p := ad.add (j * 2)) (by rw [Rw.add_block]; exact hb)).trans c0
        clear h2 h3 hp hL hN s0 s1 c0 k2 k3
        go_enter Tryz.func41, Tryz.ntmps41
        go_wp2_with fail
        go_region
        all_goals go_wp2_with fail
        exact bodyPost_ret (v := .agg #[.int .i64 6, .string L[j].1, .int .i64 (t.p + 1)]) (by simp [results, Tryz.f41, go_sem]) rfl ⟨rfl, (((Q.refl w).alloc _).alloc _).drew⟩
      · by_cases k45 : t.k = 4 ∨ t.k = 5
        · have HO := Lib.hid (one_45 L names k45)
          rw [HO.out]
          clear h2 h3 hp hL hN
          rcases k45 with k | k
          · rw [k]
            go_enter Tryz.func41, Tryz.ntmps41
            go_wp2_with fail
            exact bodyPost_ret (v := .agg #[.int .i64 4, .string ⟨#[]⟩, .int .i64 2]) (by simp [results, Tryz.f41, go_sem]) rfl ⟨rfl, ((Q.refl w).alloc _).alloc _⟩
          · rw [k]
            go_enter Tryz.func41, Tryz.ntmps41
            go_wp2_with fail
            exact bodyPost_ret (v := .agg #[.int .i64 5, .string ⟨#[]⟩, .int .i64 2]) (by simp [results, Tryz.f41, go_sem]) rfl ⟨rfl, ((Q.refl w).alloc _).alloc _⟩
        · have HO := Lib.hid (one_else L names (t := t) (by omega))
          rw [HO.out]
          have d2 : (t.k == 2) = false := beq_eq_false_iff_ne.2 k2
          have d3 : (t.k == 3) = false := beq_eq_false_iff_ne.2 k3
          have d4 : (t.k == 4) = false := beq_eq_false_iff_ne.2 (by omega)
          have d5 : (t.k == 5) = false := beq_eq_false_iff_ne.2 (by omega)
          have d6 : (t.k == 6) = false := beq_eq_false_iff_ne.2 k6
          clear h2 h3 hp hL hN k45
          go_enter Tryz.func41, Tryz.ntmps41
          go_wp2_with fail
          exact bodyPost_ret (v := .agg #[.int .i64 t.k, .string ⟨#[]⟩, .int .i64 0]) (by simp [results, Tryz.f41, go_sem]) rfl ⟨rfl, ((Q.refl w).alloc _).alloc _⟩
end Go.Proofs.YtdmdcggmgipdbaaGreatDoor.Ld

namespace Go.Proofs.YtdmdcggmgipdbaaGreatDoor.Kit

section
variable {P : Program} {ops : Array Oper} {Q : Exit → Act → World → Prop} {S : World → Prop}
theorem take_w {i : Nat} {oi : Oper} {d : Option Tmp} {v : Value} {fuel : Nat} {listed : Array Bool} {a : Act} {w : World} (hi : ops[i]? = some oi)
    (hs : Region.noSelect ops = true) (hf : Region.free .any ops listed i = true) (hr : (Region.ready .any ops listed).contains i = true)
    (hQ : ∀ c a w, Q (.panic c) (a.put d v) w → Q (.panic c) a w) (hd : oi.dst = d) (hw : Region.wanted oi (yielded ops a.tmps) = true) (hy : ∀ w, S w → (execOp a.eval oi).run P w = .ok (.value v) w) (hS : S w)
    (h : wpAnyH P .any ops Q S fuel (listed.setIfInBounds i true) (a.put d v) w) : wpAnyH P .any ops Q S (fuel + 1) listed a w := by
  subst hd
  exact wpAnyH_take hi hs hf hr hQ (.inl ⟨hw, hy⟩) hS h
theorem call_w {i : Nat} {o : Oper} {fuel : Nat} {listed : Array Bool} {a : Act} {w : World} (ho : ops[i]? = some o) (hr : Region.ready .any ops listed = [i])
    (hw : Region.wanted o (yielded ops a.tmps) = true)
    (h : ∀ K' : Act → World → Prop, Shut (∀ a w, S w → (S w → wpAnyH P .any ops Q S fuel (listed.setIfInBounds i true) a w) → K' a w) → Oper.wp P o a w K' Q) :
    wpAnyH P .any ops Q S (fuel + 1) listed a w :=
  wpAnyH_ready hr (by simp) (AllReadyH.cons ho (fun K' hK => by rw [if_pos hw]; exact h K' hK) AllReadyH.nil)
end
end Go.Proofs.YtdmdcggmgipdbaaGreatDoor.Kit
