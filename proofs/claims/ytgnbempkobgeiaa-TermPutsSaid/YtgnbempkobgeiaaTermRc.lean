/-
  Contract of the document's Below.
-/
import Derived.Test.YtgnbempkobgeiaaTermRb
namespace Go.Proofs.Ytgnbempkobgeiaa.Tm
open Go.RowKit Kit Hs

set_option maxRecDepth 100000 in
set_option maxHeartbeats 1000000 in
theorem refOfB_any (Bd : Nat) (A S : Option Addr) (n c m d : Nat) (ks : List (List Int)) (id : Int) (w : World) (hn : n = ks.length) (hk : Keys w Bd A ks) (hBd : Bd ≤ w.heap.size) :
    Calls Try.prog 38 #[.agg #[.slice A n c, .slice S m d], .int .i64 id] w (LookB Bd ks id w) := by
  subst hn
  have q0 := ((Q.refl w).alloc (Obj.cells #[Value.slice A ks.length c, Value.slice S m d] 26)).alloc (Obj.cells #[.int .i64 0, .int .i64 0, .int .i64 0, .slice none 0 0] 28)
  cases hp : isPl id ks.length
  · have HT := Lib.hid (termAt_out hp)
    have hno := isPl_no hp
    clear hk
    by_cases h0 : id < 0
    · have d0 : decide (id < 0) = true := decide_eq_true h0
      clear hno h0
      go_enter Try.func38, Try.ntmps38
      go_wp2_with fail
      exact bodyPost_ret (v := .tuple #[.agg #[.int .i64 0, .int .i64 0, .int .i64 0, .slice none 0 0], .bool false]) (by simp [results, Try.f38, go_sem]) rfl (lookB_none HT.out q0)
    · have d0 : decide (id < 0) = false := decide_eq_false h0
      have d1 : decide ((ks.length : Int) ≤ id) = true := decide_eq_true (by omega)
      clear hno h0
      go_enter Try.func38, Try.ntmps38
      go_wp2_with fail
      exact bodyPost_ret (v := .tuple #[.agg #[.int .i64 0, .int .i64 0, .int .i64 0, .slice none 0 0], .bool false]) (by simp [results, Try.f38, go_sem]) rfl (lookB_none HT.out q0)
  · obtain ⟨h0, h1⟩ := (isPl_iff _ _).1 hp
    obtain ⟨i, rfl⟩ := Int.eq_ofNat_of_zero_le h0
    have hlt : i < ks.length := by omega
    obtain ⟨ad, rfl, hb, a, c1, hle, c0, hi⟩ := hk.at_ hlt
    by_cases h3 : 3 ≤ ks[i].length
    · have HT := Lib.hid (termAt_key hlt h3)
      obtain ⟨ad1, rfl, hb1, hc1⟩ := hi (by omega)
      have k0 := hc1 0 _ (List.getElem?_eq_getElem (show 0 < ks[i].length by omega))
      have k1 := hc1 1 _ (List.getElem?_eq_getElem (show 1 < ks[i].length by omega))
      have k2 := hc1 2 _ (List.getElem?_eq_getElem (show 2 < ks[i].length by omega))
      have hsl := slice_l (some ad1) ks[i].length c1 3 h3
      have d3 : decide (ks[i].length < 3) = false := decide_eq_false (by omega)
      have Hc := Lib.hid hc1
      have c0' := (q0.cell (p := ad.add i) (by rw [add_block]; exact Nat.lt_of_lt_of_le hb hBd)).trans c0
      have k0' : ((w.alloc (Obj.cells #[Value.slice (some ad) ks.length c, Value.slice S m d] 26)).alloc (Obj.cells #[.int .i64 0, .int .i64 0, .int .i64 0, .slice none 0 0] 28)).cell? ad1 = some (.int .i64 ks[i][0]) := (q0.cell (by exact Nat.lt_of_lt_of_le hb1 hBd)).trans (by simpa [Addr.add] using k0)
      have k1' : ((w.alloc (Obj.cells #[Value.slice (some ad) ks.length c, Value.slice S m d] 26)).alloc (Obj.cells #[.int .i64 0, .int .i64 0, .int .i64 0, .slice none 0 0] 28)).cell? ⟨ad1.block, ad1.off + 1, none⟩ = some (.int .i64 ks[i][1]) := (q0.cell (by exact Nat.lt_of_lt_of_le hb1 hBd)).trans (by simpa [Addr.add] using k1)
      have k2' : ((w.alloc (Obj.cells #[Value.slice (some ad) ks.length c, Value.slice S m d] 26)).alloc (Obj.cells #[.int .i64 0, .int .i64 0, .int .i64 0, .slice none 0 0] 28)).cell? ⟨ad1.block, ad1.off + 2, none⟩ = some (.int .i64 ks[i][2]) := (q0.cell (by exact Nat.lt_of_lt_of_le hb1 hBd)).trans (by simpa [Addr.add] using k2)
      clear hk hc1 hi c0 k0 k1 k2
      go_enter Try.func38, Try.ntmps38
      go_wp2_with fail
      go_region
      all_goals go_wp2_with fail
      · rename_i h
        have qW : Q w (((w.alloc (Obj.cells #[Value.slice (some ad) ks.length c, Value.slice S m d] 26)).alloc (Obj.cells #[.int .i64 ks[i][0], .int .i64 ks[i][1], .int .i64 ks[i][2], .slice (some ad1) (ks[i].length - 3) 0] 28)).drew) := (((Q.refl w).alloc _).alloc _).drew
        refine bodyPost_ret (v := .tuple #[.agg #[.int .i64 ks[i][0], .int .i64 ks[i][1], .int .i64 ks[i][2], .slice (some ad1) (ks[i].length - 3) 0], .bool true]) (by simp [results, Try.f38, go_sem]) rfl (lookB_some HT.out (by simp) (fun h0 => ?_) qW)
        rw [List.length_drop] at h0
        omega
      · have qW : Q w (((w.alloc (Obj.cells #[Value.slice (some ad) ks.length c, Value.slice S m d] 26)).alloc (Obj.cells #[.int .i64 ks[i][0], .int .i64 ks[i][1], .int .i64 ks[i][2], .slice (some ⟨ad1.block, ad1.off + 3, none⟩) (ks[i].length - 3) (c1 - 3)] 28)).drew) := (((Q.refl w).alloc _).alloc _).drew
        refine bodyPost_ret (v := .tuple #[.agg #[.int .i64 ks[i][0], .int .i64 ks[i][1], .int .i64 ks[i][2], .slice (some ⟨ad1.block, ad1.off + 3, none⟩) (ks[i].length - 3) (c1 - 3)], .bool true]) (by simp [results, Try.f38, go_sem]) rfl (lookB_some HT.out (by simp) ?_ qW)
        exact drop_intsB Hc.out hb1 hBd qW 3
    · have HT := Lib.hid (termAt_short hlt (Nat.lt_of_not_le h3))
      have d3 : decide (ks[i].length < 3) = true := decide_eq_true (by omega)
      have c0' := (q0.cell (p := ad.add i) (by rw [add_block]; exact Nat.lt_of_lt_of_le hb hBd)).trans c0
      clear hk hi c0
      go_enter Try.func38, Try.ntmps38
      go_wp2_with fail
      exact bodyPost_ret (v := .tuple #[.agg #[.int .i64 0, .int .i64 0, .int .i64 0, .slice none 0 0], .bool false]) (by simp [results, Try.f38, go_sem]) rfl (lookB_none HT.out q0)

/-- a term's box, just laid -/
theorem zero4 (w : World) : Box4 (w.alloc (.cells #[.int .i64 0, .int .i64 0, .int .i64 0, .slice none 0 0] 28)) w.heap.size (.int .i64 0) (.int .i64 0) (.int .i64 0) (.slice none 0 0) := Box4.new w _ _ _ _ _
/-- the row that is gone through, its place, and the box of the term that is looked at -/
structure Gt (W wr : World) (all : List Nat) (v : Value) (tb : Nat) (A1 : Option Addr) (N c1 : Nat) : Prop where
  own : wr.ownsRow W.heap.size 3 1 v all.length (cellsI (castL all))
  c3 : wr.cell? ⟨tb, 3, none⟩ = some (.slice A1 N c1)
  lt : tb < wr.heap.size
  far : W.heap.size ≤ tb
  ne : v.ownBlock ≠ some tb
  q : Q W wr
def CutB (W : World) (all : List Nat) (v : Value) (xs : List Int) (p ok : Value) (wx : World) : Prop :=
  ∃ tb A1 N c1 b, p = .pointer (some ⟨tb, 0, none⟩) ∧ ok = .bool b ∧ N = xs.length ∧ Ints W W.heap.size A1 xs ∧ Gt W wx all v tb A1 N c1
theorem Gt.push {W wr w' : World} {all : List Nat} {v v' : Value} {tb N c1 x : Nat} {A1 : Option Addr} (h : Gt W wr all v tb A1 N c1) (own : w'.ownsRow W.heap.size 3 1 v' (all.length + 1) (cellsI (castL all) ++ [.int .i64 (x : Int)])) (hg : (wr.alloc (.cells #[.int .i64 (x : Int)] 3)).grownBy w' v.ownBlock) (hv : v'.ownBlock = v.ownBlock ∨ v'.ownBlock = some (wr.alloc (.cells #[.int .i64 (x : Int)] 3)).heap.size) : Gt W w' (all ++ [x]) v' tb A1 N c1 := by
  have qa := (Q.refl wr).alloc (.cells #[.int .i64 (x : Int)] 3)
  have hne : some tb ≠ v.ownBlock := fun e => h.ne e.symm
  refine ⟨?_, ?_, Nat.lt_of_lt_of_le h.lt (Nat.le_trans qa.size hg.size), h.far, ?_, (h.q.trans qa).grown hg (h.q.trans qa).size (fun b hb => (h.own.lt b hb).1)⟩
  · rw [List.length_append, List.length_singleton, castL_snoc, ← snocI]; exact own
  · exact (hg.cell_far ⟨tb, 3, none⟩ (Nat.lt_of_lt_of_le h.lt qa.size) hne).trans ((qa.cell (p := ⟨tb, 3, none⟩) h.lt).trans h.c3)
  · rcases hv with e | e
    · rw [e]; exact h.ne
    · rw [e]
      intro e2
      injection e2 with e2
      have := h.lt
      simp at e2
      omega
theorem row_q {w w' : World} {base n : Nat} {e : TypeId} {v : Value} {xs : List Value} (h : w.ownsRow base e 1 v n xs) (q : Q w w') : w'.ownsRow base e 1 v n xs := by
  obtain ⟨h1, h2 | ⟨g, cap, cur, h3, h4, h5, h6⟩⟩ := h
  · exact ⟨h1, .inl h2⟩
  · exact ⟨h1, .inr ⟨g, cap, cur, h3, h4, (q.block g (Array.getElem?_eq_some_iff.1 h5).1).trans h5, h6⟩⟩

def upG (all : List Nat) (p : Nat) : List Nat := (List.range p).filter fun x => inL (castL all) (x : Int)
theorem upG_yes {all : List Nat} {p : Nat} (h : inL (castL all) (p : Int) = true) : upG all (p + 1) = upG all p ++ [p] := by
  unfold upG
  rw [List.range_succ, List.filter_append, List.filter_cons_of_pos (p := fun x : Nat => inL (castL all) (x : Int)) h]
  rfl
theorem upG_no {all : List Nat} {p : Nat} (h : inL (castL all) (p : Int) = false) : upG all (p + 1) = upG all p := by
  unfold upG
  rw [List.range_succ, List.filter_append, List.filter_cons_of_neg (p := fun x : Nat => inL (castL all) (x : Int)) (by rw [h]; simp)]
  simp
theorem four_q {wr w3 : World} (p : Q wr w3) (a b c d : Value) : Q wr ((((w3.setCell ⟨wr.heap.size, 0, none⟩ a).setCell ⟨wr.heap.size, 1, none⟩ b).setCell ⟨wr.heap.size, 2, none⟩ c).setCell ⟨wr.heap.size, 3, none⟩ d) :=
  (((p.setCell (p := ⟨wr.heap.size, 0, none⟩) (Nat.le_refl _) _).setCell (p := ⟨wr.heap.size, 1, none⟩) (Nat.le_refl _) _).setCell (p := ⟨wr.heap.size, 2, none⟩) (Nat.le_refl _) _).setCell (p := ⟨wr.heap.size, 3, none⟩) (Nat.le_refl _) _

set_option maxRecDepth 100000 in
set_option maxHeartbeats 8000000 in
theorem refBelow_in (A S : Option Addr) (c m d : Nat) (l : List Sg.Sig) (ks : List (List Int)) (id : Nat) (w : World) (hk : Keys w w.heap.size A ks) (hst : Store l ks) (hid : id < ks.length) (hl : ks.length ≤ 5000) (hs : ∀ k ∈ ks, k.length ≤ 100000) :
    Calls Try.prog 16 #[.agg #[.slice A ks.length c, .slice S m d], .int .i64 (id : Int)] w (RowPost (belowL ks id) w) := by
  have q0 := (Q.refl w).alloc (Obj.cells #[Value.slice A ks.length c, Value.slice S m d] 26)
  have Hk := Lib.hid ((hk.q (Nat.le_refl _) q0).more q0.size)
  have HB := Lib.hid (BoxT.new w (Value.slice A ks.length c) (Value.slice S m d) 26)
  have HsM := Lib.hid hs
  have Hst := Lib.hid hst
  have d0 : decide ((id : Int) < 0) = false := decide_eq_false (by omega)
  have d1 : decide ((ks.length : Int) ≤ (id : Int)) = false := decide_eq_false (by omega)
  have d2 : decide (ks.length ≤ id) = false := decide_eq_false (by omega)
  obtain ⟨i0, hi, hz0, hz1, hz2⟩ := info_parts intInfo
  have Hi := Lib.hid hi
  have Hz0 := Lib.hid hz0
  have Hz1 := Lib.hid hz1
  have Hz2 := Lib.hid hz2
  clear hk hs hst hi hz0 hz1 hz2
  go_enter Try.func16, Try.ntmps16
  go_upto_region 3 with fail
  generalize w.alloc (Obj.cells #[Value.slice A ks.length c, Value.slice S m d] 26) = W at *
  have ho := own_block (base := W.heap.size) (e := 3) (cs := #[.int .i64 (id : Int)]) (Nat.le_refl _) (heap_alloc_new W (Obj.cells #[.int .i64 (id : Int)] 3)) (by unfold maxLen; simp)
  have Ho : Hid ((W.alloc (Obj.cells #[.int .i64 (id : Int)] 3)).ownsRow W.heap.size 3 1 (.slice (some ⟨W.heap.size, 0, none⟩) 1 1) 1 (cellsI (castL [id]))) := ho
  have qW := (Q.refl W).alloc (Obj.cells #[.int .i64 (id : Int)] 3)
  clear ho
  go_wp2_with fail
  go_loopw [5, 6, 7, 8, 9, 10] (fun v i _ _ _ _ wr => ∃ (k : Nat) (all : List Nat), k ≤ all.length ∧ all.length ≤ id + 1 ∧ i = .int .i64 k ∧ Hid (Fnd ks id all k) ∧ Hid (wr.ownsRow W.heap.size 3 1 v all.length (cellsI (castL all))) ∧ Q W wr) (fun _ i _ _ _ _ _ => id + 1 - (intOf i).toNat)
  case atStart => exact ⟨0, [id], Nat.zero_le _, by simp, rfl, Lib.hid (Fnd.start ks id), Ho, qW⟩
  case round =>
    clear Ho qW
    obtain ⟨k, all, hka, hal, rfl, HFd, HOw, qr⟩ := hrel
    by_cases hlt : k < all.length
    · obtain ⟨Av, cv, hv, _, hAv⟩ := own_form HOw.out
      obtain ⟨g, rfl, hg0, hg1, hgc⟩ := hAv (by omega)
      subst hv
      obtain ⟨y, hy⟩ : ∃ y, all[k]? = some y := ⟨all[k], List.getElem?_eq_getElem hlt⟩
      have hyc := (hgc k _ (by unfold cellsI; rw [List.getElem?_map, castL_get hy]; rfl)).1
      have hyM := HFd.out.made y (List.mem_of_getElem? hy)
      have hyl := hyM.le
      have hyk : y < ks.length := by omega
      obtain ⟨h3, hM, _⟩ := keyOk_parts (Hst.out.ok y _ (List.getElem?_eq_getElem hyk))
      have HTn := Lib.hid (termAt_at hyk h3)
      have ha : argsOf ks y = (ofKey ks[y]).xs := by unfold argsOf; rw [termAt_at hyk h3]; rfl
      have hxl : (ofKey ks[y]).xs.length ≤ 100000 := by have := HsM.out _ (List.getElem_mem hyk); simp [ofKey]; omega
      obtain ⟨t, ht⟩ : ∃ t, ofKey ks[y] = t := ⟨_, rfl⟩
      rw [ht] at HTn hM ha hxl
      have Ha := Lib.hid ha
      have Hy := Lib.hid hy
      have HP : Hid (∀ x ∈ t.xs, 0 ≤ x ∧ x < (y : Int)) := fun x hx => by
        unfold mayB at hM
        simp only [Bool.and_eq_true] at hM
        have h2 := hM.2
        unfold allPl at h2
        rw [List.all_eq_true] at h2
        exact (isPl_iff _ _).1 (h2 x hx)
      have b0 := (HB.out.q qr).c0
      have b1 := (HB.out.q qr).c1
      have hbl := (HB.out.q qr).lt
      have k0 : (0 : Int) ≤ (k : Int) := by omega
      have k1 : (k : Int) < (all.length : Int) := by omega
      have HCO : Hid (∀ U, Q wr U → Calls Try.prog 38 #[.agg #[.slice A ks.length c, .slice S m d], .int .i64 (y : Int)] U (LookB W.heap.size ks (y : Int) U)) := fun U p => refOfB_any W.heap.size _ _ _ _ _ _ ks y U rfl (Hk.out.keep (qr.trans p)) (qr.trans p).size
      clear ht h3 hM hgc ha hy hAv
      go_upto_region 7 with fail
      go_cut [7, 8] (CutB W all (.slice (some ⟨g, 0, none⟩) all.length cv) t.xs)
      case first =>
        go_region_held3 (fun w' => w'.cell? ⟨w.heap.size, 0, none⟩ = some (.slice A ks.length c) ∧ w'.cell? ⟨w.heap.size, 1, none⟩ = some (.slice S m d) ∧ w'.cell? ⟨g, k, none⟩ = some (.int .i64 (y : Int)))
          (first
            | (with_reducible exact ⟨((four_q p3 _ _ _ _).cell (p := ⟨w.heap.size, 0, none⟩) hbl).trans b0, ((four_q p3 _ _ _ _).cell (p := ⟨w.heap.size, 1, none⟩) hbl).trans b1, ((four_q p3 _ _ _ _).cell (p := ⟨g, k, none⟩) hg1).trans hyc⟩)
            | (with_reducible exact ⟨((p3.alloc _).cell (p := ⟨w.heap.size, 0, none⟩) hbl).trans b0, ((p3.alloc _).cell (p := ⟨w.heap.size, 1, none⟩) hbl).trans b1, ((p3.alloc _).cell (p := ⟨g, k, none⟩) hg1).trans hyc⟩)
            | (with_reducible exact ⟨(p3.cell (p := ⟨w.heap.size, 0, none⟩) hbl).trans b0, (p3.cell (p := ⟨w.heap.size, 1, none⟩) hbl).trans b1, (p3.cell (p := ⟨g, k, none⟩) hg1).trans hyc⟩)
            | go_keep)
          (first
            | (go_at_call 38; refine (HCO.out _ (by first | exact (Q.refl wr).drew | exact (Q.refl wr).drew.alloc _ | exact ((Q.refl wr).alloc _).drew)).mono ?_; rintro e w3 ⟨A1, N, c1, rfl, hN, hA1, q3⟩; rw [HTn.out] at hN hA1 ⊢; simp only [Option.getD_some, Option.isSome_some] at hN hA1 ⊢; have HN := Lib.hid hN; have HA1 := Lib.hid hA1; clear hN hA1; have p3 : Q wr w3 := (by first | exact (Q.refl wr).drew.trans q3 | exact ((Q.refl wr).drew.alloc _).trans q3 | exact ((Q.refl wr).alloc _).drew.trans q3); (first | (have bx : Box4 w3 wr.heap.size (.int .i64 0) (.int .i64 0) (.int .i64 0) (.slice none 0 0) := (by first | exact (zero4 wr.drew).q q3 | exact (zero4 wr).q q3); have y0 := bx.c0; have y1 := bx.c1; have y2 := bx.c2; have y3 := bx.c3; have z0 := bx.f0; have z1 := bx.f1; have z2 := bx.f2; have z3 := bx.f3) | skip)))
        · go_wp2_with fail
          go_meet
          refine ⟨w3.heap.size, A1, N, c1, true, rfl, rfl, HN.out, HA1.out.back (qr.trans p3), row_q HOw.out (p3.alloc _), by simp, by simp, (qr.trans p3).size, ?_, (qr.trans p3).alloc _⟩
          intro e
          have e2 : some g = some w3.heap.size := e
          injection e2 with e2
          have := p3.size
          omega
        · go_wp2_with fail
          go_meet
          refine ⟨wr.heap.size, A1, N, c1, true, rfl, rfl, HN.out, HA1.out.back (qr.trans p3), row_q HOw.out (four_q p3 _ _ _ _), (bx.all _ _ _ _).c3, (bx.all _ _ _ _).lt, qr.size, ?_, qr.trans (four_q p3 _ _ _ _)⟩
          intro e
          have e2 : some g = some wr.heap.size := e
          injection e2 with e2
          omega
      case rest =>
        obtain ⟨tb, A1, N, c1, bb, rfl, rfl, hN, hA1, hG⟩ := hcut
        have HG := Lib.hid hG
        have HA1 := Lib.hid hA1
        have HN := Lib.hid hN
        have hNl : N ≤ 100000 := by omega
        clear hG hA1 hN b0 b1 hyc hbl HOw HCO
        go_wp2_with fail
        go_loopw [5, 9, 10] (fun v j _ wr' => ∃ (q : Nat) (al : List Nat), q ≤ N ∧ j = .int .i64 q ∧ al.length ≤ id + 1 ∧ k < al.length ∧ Hid (al[k]? = some y) ∧ Hid (Fnd ks id al k) ∧ Hid (∀ x : Nat, (x : Int) ∈ t.xs.take q → x ∈ al) ∧ Hid (Gt W wr' al v tb A1 N c1)) (fun _ j _ _ => N - (intOf j).toNat)
        case atStart => exact ⟨0, all, Nat.zero_le _, rfl, hal, hlt, Hy, HFd, Lib.hid (fun x hx => by simp at hx), HG⟩
        case round =>
          clear HG
          obtain ⟨q, al, hq, rfl, hal', hlt', Hy', HFd', HIn, HG⟩ := hrel
          have x3 := HG.out.c3
          by_cases hqN : q < N
          · have hqx : q < t.xs.length := by have := HN.out; omega
            obtain ⟨ad, rfl, hba, c0⟩ := (HA1.out.keep HG.out.q).at_ hqx
            obtain ⟨p0, p1⟩ := HP.out _ (List.getElem_mem hqx)
            obtain ⟨x, hx⟩ := Int.eq_ofNat_of_zero_le p0
            have Hx := Lib.hid hx
            have Htk := Lib.hid (mem_take_succ hqx)
            have Hxa : Hid ((x : Int) ∈ argsOf ks y) := by unfold Hid; rw [Ha.out, ← hx]; exact List.getElem_mem hqx
            rw [hx] at c0 p0 p1
            have hxy : x < y := by omega
            obtain ⟨Av, cv', hv, _, hAv⟩ := own_form HG.out.own
            obtain ⟨g', rfl, hg0', hg1', hgc'⟩ := hAv (by omega)
            subst hv
            have HOI : Hid (Ints wr w.heap.size none []) := fun h => absurd h (by simp)
            have HIr : Hid (Ints wr wr.heap.size (some ⟨g', 0, none⟩) (castL al)) := (OwnI.of_own (by have := HG.out.own; exact this)).ints
            have C := refIn_any (some ⟨g', 0, none⟩) al.length cv' (castL al) (x : Int) wr (castL_len al).symm HIr.out (by rw [castL_len]; unfold maxLen; omega)
            have q0i : (0 : Int) ≤ (q : Int) := by omega
            have q1i : (q : Int) < (N : Int) := by omega
            clear hx hAv hgc' HOI
            cases hin : inL (castL al) (x : Int)
            · rw [hin] at C
              have HC := Lib.hid C
              have hno : x ∉ al := fun h => by rw [castL_in.2 h] at hin; cases hin
              have Hno := Lib.hid hno
              have HFp := Lib.hid (HFd'.out.push hlt' Hy'.out Hxa.out hxy hno)
              have Hsb := Lib.hid (src_block (heap_alloc_new wr (.cells #[.int .i64 (x : Int)] 3)))
              have Hown := Lib.hid (HG.out.own.alloc (.cells #[.int .i64 (x : Int)] 3))
              have hWs := HG.out.q.size
              clear C hin hno
              go_wp2_with (first
                | (go_at_call 39; refine HC.out.mono ?_; rintro e w' ⟨rfl, rfl⟩)
                | (at_builtin; refine wpList_append_src _ rfl (.tmp 56) (.tmp 62) _ rfl W.heap.size 3 i0 _ 1 8 Try.underlying24 Hi.out Hz0.out Hz1.out Hz2.out rfl (by omega) (.slice (some ⟨g', 0, none⟩) al.length cv') al.length (cellsI (castL al)) rfl Hown.out (some ⟨wr.heap.size, 0, none⟩) 1 1 [.int .i64 (x : Int)] rfl (by simp) Hsb.out (by simp [Value.oneCell']) (by unfold maxLen; omega) (by omega) (by simp; omega) ?_; intro v' w6 own' gr' hv'; have HG6 := Lib.hid (HG.out.push own' gr' hv'); clear own' gr' hv'))
              go_roundw
              case rel => exact ⟨q + 1, al ++ [x], by omega, by go_num, HFp.out.len, by simp; omega, Lib.hid (by rw [List.getElem?_append_left hlt']; exact Hy'.out), HFp, Lib.hid (fun z hz => by
                rcases (Htk.out _).1 hz with h | h
                · exact List.mem_append_left _ (HIn.out z h)
                · rw [Hx.out] at h; obtain rfl : z = x := by omega
                  simp), HG6⟩
              case measure => simp [intOf]; omega
            · rw [hin] at C
              have HC := Lib.hid C
              have Hmem := Lib.hid (castL_in.1 hin)
              clear C hin
              go_wp2_with (go_at_call 39; refine HC.out.mono ?_; rintro e w' ⟨rfl, rfl⟩)
              go_roundw
              case rel => exact ⟨q + 1, al, by omega, by go_num, hal', hlt', Hy', HFd', Lib.hid (fun z hz => by
                rcases (Htk.out _).1 hz with h | h
                · exact HIn.out z h
                · rw [Hx.out] at h; obtain rfl : z = x := by omega
                  exact Hmem.out), HG⟩
              case measure => simp [intOf]; omega
          · have HFn : Hid (Fnd ks id al (k + 1)) := HFd'.out.next Hy'.out fun z hz _ => HIn.out z (by rw [List.take_of_length_le (by have := HN.out; omega), ← Ha.out]; exact hz)
            have HOw' := Lib.hid HG.out.own
            have qr' := HG.out.q
            go_wp2_with fail
            go_roundw
            case rel => exact ⟨k + 1, al, by omega, hal', by go_num, HFn, HOw', qr'⟩
            case measure => simp [intOf]; omega
    · have HAll : Hid (∀ x, x ∈ all ↔ Made ks id x) := fun x => HFd.out.all (by omega) x
      obtain ⟨Av, cv, hv, _, hAv⟩ := own_form HOw.out
      have hpos : 0 < all.length := List.length_pos_of_mem HFd.out.top
      obtain ⟨g, rfl, hg0, hg1, hgc⟩ := hAv hpos
      subst hv
      have HIr : Hid (Ints wr wr.heap.size (some ⟨g, 0, none⟩) (castL all)) := (OwnI.of_own (by have := HOw.out; exact this)).ints
      have Hlc : Hid (all.length = (castL all).length) := (castL_len all).symm
      have id0 : (0 : Int) ≤ (id : Int) := by omega
      obtain ⟨V, hVr⟩ : ∃ V, V = wr := ⟨_, rfl⟩
      subst hVr
      clear hAv hgc
      go_wp2_with fail
      go_loopw [11, 12, 13] (fun v n _ wr' => ∃ (p : Nat), p ≤ id + 1 ∧ n = .int .i64 p ∧ Hid (wr'.ownsRow V.heap.size 3 1 v (upG all p).length (cellsI (castL (upG all p)))) ∧ Q V wr') (fun _ n _ _ => id + 1 - (intOf n).toNat)
      case atStart => exact ⟨0, Nat.zero_le _, rfl, Lib.hid (World.ownsRow_nil _ _ _ _), Q.refl _⟩
      case round =>
        obtain ⟨p, hp, rfl, HO2, qr2⟩ := hrel
        have hlu : (upG all p).length ≤ p := by unfold upG; have := List.length_filter_le (fun x : Nat => inL (castL all) (x : Int)) (List.range p); simpa using this
        by_cases hpi : p ≤ id
        · have C := refIn_any (some ⟨g, 0, none⟩) all.length cv (castL all) (p : Int) wr Hlc.out ((HIr.out.q (Nat.le_refl _) qr2).more qr2.size) (by rw [castL_len]; unfold maxLen; omega)
          cases hin : inL (castL all) (p : Int)
          · rw [hin] at C
            have HC := Lib.hid C
            have HU := Lib.hid (upG_no hin)
            clear C hin
            go_wp2_with (go_at_call 39; refine HC.out.mono ?_; rintro e w' ⟨rfl, rfl⟩)
            go_roundw
            case rel => exact ⟨p + 1, by omega, by go_num, by rw [HU.out]; exact HO2, qr2⟩
            case measure => simp [intOf]; omega
          · rw [hin] at C
            have HC := Lib.hid C
            have HU := Lib.hid (upG_yes hin)
            have Hsb := Lib.hid (src_block (heap_alloc_new wr (.cells #[.int .i64 (p : Int)] 3)))
            have Hown := Lib.hid (HO2.out.alloc (.cells #[.int .i64 (p : Int)] 3))
            have hWs := qr2.size
            clear C hin
            go_wp2_with (first
              | (go_at_call 39; refine HC.out.mono ?_; rintro e w' ⟨rfl, rfl⟩)
              | (at_builtin; refine wpList_append_src _ rfl (.tmp 73) (.tmp 75) _ rfl V.heap.size 3 i0 _ 1 8 Try.underlying24 Hi.out Hz0.out Hz1.out Hz2.out rfl (by omega) _ (upG all p).length (cellsI (castL (upG all p))) rfl Hown.out (some ⟨wr.heap.size, 0, none⟩) 1 1 [.int .i64 (p : Int)] rfl (by simp) Hsb.out (by simp [Value.oneCell']) (by unfold maxLen; omega) (by omega) (by simp; omega) ?_; intro v' w6 own' gr' _; have q6 : Q V w6 := (qr2.alloc _).grown gr' (qr2.alloc _).size (fun b hb => (HO2.out.lt b hb).1); have HO6 := Lib.hid own'; clear own' gr'))
            go_roundw
            case rel => exact ⟨p + 1, by omega, by go_num, by rw [HU.out, List.length_append, castL_snoc, ← snocI]; exact HO6, q6⟩
            case measure => simp [intOf]; omega
        · obtain rfl : p = id + 1 := by omega
          have HBl : Hid (belowL ks id = castL (upG all (id + 1))) := (below_is ks id).unique ⟨fun x : Nat => inL (castL all) (x : Int), fun x => by rw [castL_in]; exact HAll.out x, rfl⟩
          go_wp2_with fail
          go_ret
          obtain ⟨A9, c9, h9, _, hA9⟩ := own_form HO2.out
          refine ⟨A9, c9, ?_, ?_, (q0.trans qr).trans qr2⟩
          · rw [HBl.out, castL_len, ← h9]; rfl
          · rw [HBl.out]
            intro h0
            rw [castL_len] at h0
            obtain ⟨g9, rfl, _, hl9, hc9⟩ := hA9 h0
            exact ⟨_, rfl, hl9, fun i x hx => by rw [add_zero_head]; exact (hc9 i _ (by unfold cellsI; rw [List.getElem?_map, hx]; rfl)).1⟩
end Go.Proofs.Ytgnbempkobgeiaa.Tm
