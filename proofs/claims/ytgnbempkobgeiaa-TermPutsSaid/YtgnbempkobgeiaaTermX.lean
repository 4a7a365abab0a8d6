/-
  Contract of term.Below.
-/
import Derived.Test.YtgnbempkobgeiaaTermW
namespace Go.Proofs.Ytgnbempkobgeiaa.Tm
open Go.RowKit Kit Hs

def RowPost (xs : List Int) (w : World) (e : Ending) (w' : World) : Prop := ∃ A c, e = .returned (.slice A xs.length c) ∧ Ints w' w'.heap.size A xs ∧ Q w w'
/-- what the loop of Below carries -/
structure Bl (W wr : World) (mk : List Bool) (out : List Int) (o : Value) : Prop where
  own : OwnB wr W.heap.size mk
  row : wr.ownsRow (W.heap.size + 1) 3 1 o out.length (cellsI out)
  q : Q W wr
theorem Bl.more {W wr w' : World} {mk : List Bool} {out : List Int} {o : Value} (h : Bl W wr mk out o) (q : Q wr w') : Bl W w' mk out o := by
  refine ⟨h.own.q q, ?_, h.q.trans q⟩
  have hl := h.row
  obtain ⟨h1, h2⟩ := hl
  refine ⟨h1, ?_⟩
  rcases h2 with h2 | ⟨g, cap, cur, e, hg, hh, hr⟩
  · exact .inl h2
  · exact .inr ⟨g, cap, cur, e, hg, (q.block g (Array.getElem?_eq_some_iff.1 hh).1).trans hh, hr⟩
theorem Bl.set {W wr : World} {mk : List Bool} {out : List Int} {o : Value} (h : Bl W wr mk out o) {s : Nat} (hs : s < mk.length) : Bl W (wr.setCell ⟨W.heap.size, s, none⟩ (.bool true)) (mk.set s true) out o := by
  refine ⟨h.own.set hs true, h.row.kept (grown_set _ _ _ _) ?_, h.q.setCell (p := ⟨W.heap.size, s, none⟩) (Nat.le_refl _) _⟩
  cases ho : o.ownBlock with
  | none => exact .inl rfl
  | some g =>
    refine .inr fun e => ?_
    injection e with e
    have := (h.row.lt g ho).1
    omega
theorem snocI (out : List Int) (x : Int) : cellsI out ++ [.int .i64 x] = cellsI (out ++ [x]) := by simp [cellsI]
theorem _root_.Go.Proofs.Ytgnbempkobgeiaa.Hs.Ints.back {w w' : World} {B : Nat} {A : Option Addr} {l : List Int} (h : Ints w' B A l) (hb : Below B w w') : Ints w B A l := fun h0 => by
  obtain ⟨ad, e, hlt, hc⟩ := h h0
  exact ⟨ad, e, hlt, fun i s hs => by rw [← hb.cell (by rw [add_block]; exact hlt)]; exact hc i s hs⟩
theorem Bl.push {W wr w' : World} {mk : List Bool} {out : List Int} {o v' : Value} {x : Int} {t : TypeId} (h : Bl W wr mk out o) (own : w'.ownsRow (W.heap.size + 1) 3 1 v' (out.length + 1) (cellsI out ++ [.int .i64 x])) (hg : (wr.alloc (.cells #[.int .i64 x] t)).grownBy w' o.ownBlock) : Bl W w' mk (out ++ [x]) v' := by
  have hne : some W.heap.size ≠ o.ownBlock := fun e => by
    have := (h.row.lt _ e.symm).1
    omega
  have qa := (Q.refl wr).alloc (.cells #[.int .i64 x] t)
  refine ⟨(h.own.q qa).grown hg hne, ?_, (h.q.trans qa).grown hg (h.q.trans qa).size (fun b hb => by have := (h.row.lt b hb).1; omega)⟩
  rw [List.length_append, List.length_singleton, ← snocI]
  exact own

set_option maxRecDepth 100000 in
set_option maxHeartbeats 4000000 in
theorem below_in (A S : Option Addr) (c m d : Nat) (ks : List (List Int)) (id : Nat) (w : World) (hk : Keys w w.heap.size A ks) (hid : id < ks.length) (hl : ks.length ≤ 5000) (hs : ∀ k ∈ ks, k.length ≤ 100000) :
    Calls Try.prog 15 #[.agg #[.slice A ks.length c, .slice S m d], .int .i64 (id : Int)] w (RowPost (belowL ks id) w) := by
  have q0 := (Q.refl w).alloc (Obj.cells #[Value.slice A ks.length c, Value.slice S m d] 26)
  have Hk := Lib.hid ((hk.q (Nat.le_refl _) q0).more q0.size)
  have HB := Lib.hid (BoxT.new w (Value.slice A ks.length c) (Value.slice S m d) 26)
  have hmk : ∀ u : World, (Instr.makeSlice 46 (.int .i64 ((id : Int) + 1)) (.int .i64 ((id : Int) + 1))).run Try.prog u = .ok (.slice (some ⟨u.heap.size, 0, none⟩) (id + 1) (id + 1)) (u.alloc (.cells (madeCells #[.bool false] (id + 1)) 4)) := fun u => by
    have := make_bools (id + 1) (by omega) u
    rwa [Int.natCast_add] at this
  have C1 := isPlace_any (id : Int) ks.length
  rw [(isPl_iff _ _).2 (by omega)] at C1
  have HC1 := Lib.hid C1
  have HsM : Hid (∀ y : Nat, (argsOf ks y).length ≤ 100000) := fun y => by
    unfold argsOf termAt
    split
    · rename_i h
      simp only [Bool.and_eq_true, isPl_iff] at h
      have hi : y < ks.length := by omega
      have := hs _ (List.getElem_mem hi)
      simp [ofKey, hi]
      omega
    · simp [Tm.none]
  obtain ⟨i0, hi, hz0, hz1, hz2⟩ := info_parts intInfo
  have Hi := Lib.hid hi
  have Hz0 := Lib.hid hz0
  have Hz1 := Lib.hid hz1
  have Hz2 := Lib.hid hz2
  have j0 : (0 : Int) ≤ (id : Int) := by omega
  have j1 : (id : Int) ≤ 5000 := by omega
  clear hk hs C1 hi hz0 hz1 hz2
  go_enter Try.func15, Try.ntmps15
  go_wp2_with fail
  generalize w.alloc (Obj.cells #[Value.slice A ks.length c, Value.slice S m d] 26) = W at *
  refine (HC1.out W).mono ?_
  rintro e w1 ⟨rfl, rfl⟩
  have hM := OwnB.made W (id + 1) 4
  have HMs := Lib.hid (hM.set (s := id) (by simp) true)
  have m0 := hM.2 id false (by rw [List.getElem?_replicate, if_pos (by omega)])
  obtain ⟨m1, m2⟩ := m0
  have qM := (Q.refl W).alloc (.cells (madeCells #[.bool false] (id + 1)) 4)
  clear hM
  go_wp2_with fail
  clear hmk
  have HBl0 : Hid (Bl W ((W.alloc (.cells (madeCells #[.bool false] (id + 1)) 4)).setCell ⟨W.heap.size, id, none⟩ (.bool true)) ((List.replicate (id + 1) false).set id true) [] (.slice none 0 0)) := ⟨HMs.out, World.ownsRow_nil _ _ _ _, qM.setCell (p := ⟨W.heap.size, id, none⟩) (Nat.le_refl _) _⟩
  clear m1 m2 qM HMs
  go_loopw [6, 7, 8, 9, 10, 12, 27, 51] (fun o _ _ _ _ _ i _ wr => ∃ (k : Nat) (mk : List Bool) (out : List Int), k ≤ id + 1 ∧ i = .int .i64 k ∧ Hid (mk.length = id + 1) ∧ Hid (belowL ks id = (belF ks (id + 1 - k) mk out).reverse) ∧ Hid (k = 0 → mk[id]? = some true) ∧ Hid (0 < k → 0 < out.length) ∧ out.length ≤ k ∧ Hid (Bl W wr mk out o)) (fun _ _ _ _ _ _ i _ _ => id + 1 - (intOf i).toNat)
  case atStart => exact ⟨0, _, [], Nat.zero_le _, rfl, Lib.hid (by simp), Lib.hid rfl, Lib.hid (fun _ => by rw [List.getElem?_set_self (by simp)]), Lib.hid (fun h => absurd h (by omega)), Nat.le_refl _, (by have h := HBl0.out; rw [World.setCell_alloc_new] at h; exact Lib.hid h)⟩
  case round =>
    clear HBl0
    obtain ⟨k, mk, out, hk, rfl, HL, HF, HS, HP, hol, HBl⟩ := hrel
    have b0 := (HB.out.q HBl.out.q).c0
    have b1 := (HB.out.q HBl.out.q).c1
    by_cases hlt : k ≤ id
    · obtain ⟨n, hn⟩ : ∃ n : Nat, n + k = id := ⟨id - k, by omega⟩
      have hnk : (id : Int) - (k : Int) = (n : Int) := by omega
      have hni : n < id + 1 := by omega
      have hnl : n < ks.length := by omega
      have Hnk := Lib.hid hnk
      have HF1 : Hid (belowL ks id = (belF ks (n + 1) mk out).reverse) := by have := HF.out; rwa [show id + 1 - k = n + 1 by omega] at this
      have hnm : n < mk.length := by have := HL.out; omega
      have hc := HBl.out.own.2 n _ (List.getElem?_eq_getElem hnm)
      obtain ⟨hc1, hc2⟩ := hc
      have n0 : (0 : Int) ≤ (n : Int) := by omega
      have n1 : (n : Int) < (id : Int) + 1 := by omega
      cases hb : mk[n]
      · rw [hb] at hc1
        have HN : Hid (belF ks (n + 1) mk out = belF ks n mk out) := belF_no (by rw [List.getElem?_eq_getElem hnm, hb])
        have HK0 : Hid (0 < k) := by
          rcases Nat.eq_zero_or_pos k with h | h
          · exfalso
            have := HS.out h
            obtain rfl : n = id := by omega
            rw [List.getElem?_eq_getElem hnm, hb] at this
            cases this
          · exact h
        clear hb hn
        go_wp2_with fail
        go_roundw
        case rel => exact ⟨k + 1, mk, out, by omega, by go_num, HL, Lib.hid (by rw [HF1.out, HN.out, show id + 1 - (k + 1) = n by have := Hnk.out; omega]), Lib.hid (fun h => absurd h (by omega)), Lib.hid (fun _ => HP.out HK0.out), by omega, HBl⟩
        case measure => simp [intOf]; omega
      · rw [hb] at hc1
        have HN : Hid (belF ks (n + 1) mk out = belF ks n (markAll n (argsOf ks n) mk) (out ++ [(n : Int)])) := belF_yes (by rw [List.getElem?_eq_getElem hnm, hb])
        have Hsb := Lib.hid (src_block (heap_alloc_new wr (.cells #[.int .i64 (n : Int)] 3)))
        have Hsz := HBl.out.q.size
        have qa := (Q.refl wr).alloc (.cells #[.int .i64 (n : Int)] 3)
        clear hb hn
        go_wp2_with (at_builtin; refine wpList_append_src _ rfl (.tmp 38) (.tmp 40) _ rfl (W.heap.size + 1) 3 i0 _ 1 8 Try.underlying24 Hi.out Hz0.out Hz1.out Hz2.out rfl (by omega) _ out.length (cellsI out) rfl (HBl.out.row.alloc _) (some ⟨wr.heap.size, 0, none⟩) 1 1 [.int .i64 (n : Int)] rfl (by simp) Hsb.out (by simp [Value.oneCell']) (by unfold maxLen; omega) (by omega) (by have := HBl.out.own.1; simp; omega) ?_; intro v' w2 own' gr' _; have HBl2 := Lib.hid (HBl.out.push own' gr'); clear own' gr' b0 b1 hc1 hc2; have b0 := (HB.out.q HBl2.out.q).c0; have b1 := (HB.out.q HBl2.out.q).c1)
        refine (lookB_any W.heap.size _ _ _ _ _ _ ks n _ rfl (Hk.out.keep HBl2.out.q) HBl2.out.q.size).mono ?_
        rintro e w3 ⟨A1, N, c1, rfl, hN, hA1, q3⟩
        obtain ⟨t, ht⟩ : ∃ t, (termAt ks (n : Int)).getD .none = t := ⟨_, rfl⟩
        obtain ⟨bb, hbb⟩ : ∃ bb, (termAt ks (n : Int)).isSome = bb := ⟨_, rfl⟩
        have HA : Hid (argsOf ks n = t.xs) := by unfold Hid argsOf; rw [ht]
        rw [ht] at hN hA1 ⊢
        rw [hbb]
        clear ht hbb b0 b1
        have q4 := (Q.refl w3).alloc (Obj.cells #[.int .i64 t.k, .int .i64 t.s, .int .i64 t.p, .slice A1 N c1] 28)
        have HBl4 := Lib.hid ((HBl2.out.more q3).more q4)
        have HI : Hid (Ints W W.heap.size A1 t.xs) := hA1.back (HBl2.out.more q3).q
        have HN' := Lib.hid hN
        have hNl : N ≤ 100000 := by rw [hN, ← HA.out]; exact HsM.out n
        have x3 := (Box4.new w3 (.int .i64 t.k) (.int .i64 t.s) (.int .i64 t.p) (.slice A1 N c1) 28).c3
        clear hN hA1
        go_wp2_with fail
        generalize w3.alloc (Obj.cells #[.int .i64 t.k, .int .i64 t.s, .int .i64 t.p, .slice A1 N c1] 28) = W4 at *
        clear x3
        go_loopw [12, 51] (fun _ i wr' => ∃ (j : Nat) (mk' : List Bool), j ≤ N ∧ i = .int .i64 j ∧ Hid (mk'.length = id + 1) ∧ Hid (markAll n t.xs mk = markAll n (t.xs.drop j) mk') ∧ Hid (Bl W wr' mk' (out ++ [(n : Int)]) v')) (fun _ i _ => N - (intOf i).toNat)
        case atStart => exact ⟨0, mk, Nat.zero_le _, rfl, HL, Lib.hid rfl, HBl4⟩
        case round =>
          obtain ⟨j, mk', hj, rfl, HL', HM', HBl'⟩ := hrel
          by_cases hjN : j < N
          · have hjx : j < t.xs.length := by have := HN'.out; omega
            obtain ⟨ad, rfl, hba, c0⟩ := (HI.out.keep HBl'.out.q).at_ hjx
            have HMs := Lib.hid (markAll_at n t.xs mk' j hjx)
            have C := isPlace_any t.xs[j] n
            cases hp : isPl t.xs[j] n
            · rw [hp] at C
              have HC := Lib.hid C
              have HM2 : Hid (markAll n (t.xs.drop j) mk' = markAll n (t.xs.drop (j + 1)) mk') := by have := HMs.out; rw [hp] at this; exact this
              clear C hp
              go_wp2_with (go_at_call 35; refine (HC.out _).mono ?_; rintro e w' ⟨rfl, rfl⟩)
              go_roundw
              case rel => exact ⟨j + 1, mk', by omega, by go_num, HL', Lib.hid (HM'.out.trans HM2.out), HBl'⟩
              case measure => simp [intOf]; omega
            · rw [hp] at C
              have HC := Lib.hid C
              obtain ⟨p0, p1⟩ := (isPl_iff _ _).1 hp
              obtain ⟨x, hx⟩ := Int.eq_ofNat_of_zero_le p0
              have HM2 : Hid (markAll n (t.xs.drop j) mk' = markAll n (t.xs.drop (j + 1)) (mk'.set x true)) := by have := HMs.out; rw [hp, hx] at this; exact this
              have hxm : x < mk'.length := by have := HL'.out; omega
              have hcx := HBl'.out.own.2 x _ (List.getElem?_eq_getElem hxm)
              obtain ⟨hx1, hx2⟩ := hcx
              rw [hx] at c0 HC p0 p1
              have x1 : (x : Int) < (id : Int) + 1 := by omega
              have Hxm := Lib.hid hxm
              clear C hp hx
              go_wp2_with (go_at_call 35; refine (HC.out _).mono ?_; rintro e w' ⟨rfl, rfl⟩)
              go_roundw
              case rel => exact ⟨j + 1, mk'.set x true, by omega, by go_num, Lib.hid (by rw [List.length_set]; exact HL'.out), Lib.hid (HM'.out.trans HM2.out), Lib.hid (HBl'.out.set Hxm.out)⟩
              case measure => simp [intOf]; omega
          · have HMe := Lib.hid (markAll_end n t.xs mk' j (by have := HN'.out; omega))
            go_wp2_with fail
            go_roundw
            case rel => exact ⟨k + 1, mk', out ++ [(n : Int)], by omega, by go_num, HL', Lib.hid (by rw [HF1.out, HN.out, HA.out, HM'.out, HMe.out, show id + 1 - (k + 1) = n by have := Hnk.out; omega]), Lib.hid (fun h => absurd h (by omega)), Lib.hid (fun _ => by simp), by simp; omega, HBl'⟩
            case measure => simp [intOf]; omega
    · have HF1 : Hid (belowL ks id = out.reverse) := by have := HF.out; rw [show id + 1 - k = 0 by omega] at this; exact this
      have ho := HP.out (by omega)
      obtain ⟨A9, c9, ho2, hle9, hA9⟩ := own_form HBl.out.row
      obtain ⟨g9, rfl, hg9, hg9l, _⟩ := hA9 ho
      subst ho2
      have HO : Hid (OwnI wr g9 out) := OwnI.of_own HBl.out.row
      have qw := HBl.out.q
      clear hA9 hle9 b0 b1
      go_wp2_with fail
      refine (reverse_any _ _ _ out _ rfl HO.out (by omega)).mono ?_
      rintro e w5 ⟨⟨v5, rfl⟩, hO5, hz5, hb5, _⟩
      have HO5 := Lib.hid hO5
      have q5 : Q W w5 := Below.trans qw (hb5.mono (by omega))
      clear hO5 hz5 hb5
      go_wp2_with fail
      go_ret
      refine ⟨some ⟨g9, 0, none⟩, c9, by rw [HF1.out, List.length_reverse]; rfl, by rw [HF1.out]; exact HO5.out.ints, q0.trans q5⟩

set_option maxRecDepth 100000 in
set_option maxHeartbeats 1000000 in
theorem below_out (A S : Option Addr) (n c m d : Nat) (ks : List (List Int)) (id : Int) (w : World) (hn : n = ks.length) (hid : isPl id ks.length = false) :
    Calls Try.prog 15 #[.agg #[.slice A n c, .slice S m d], .int .i64 id] w (RowPost [] w) := by
  subst hn
  have q0 := (Q.refl w).alloc (Obj.cells #[Value.slice A ks.length c, Value.slice S m d] 26)
  have C1 := isPlace_any id ks.length
  rw [hid] at C1
  have HC1 := Lib.hid C1
  clear C1 hid
  go_enter Try.func15, Try.ntmps15
  go_wp2_with (go_at_call 35; refine (HC1.out _).mono ?_; rintro e w' ⟨rfl, rfl⟩)
  go_ret
  exact ⟨none, 0, rfl, fun h => absurd h (by simp), q0⟩
def belowI (ks : List (List Int)) (id : Int) : List Int := if isPl id ks.length then belowL ks id.toNat else []
theorem below_any (A S : Option Addr) (n c m d : Nat) (ks : List (List Int)) (id : Int) (w : World) (hn : n = ks.length) (hk : Keys w w.heap.size A ks) (hl : ks.length ≤ 5000) (hs : ∀ k ∈ ks, k.length ≤ 100000) :
    Calls Try.prog 15 #[.agg #[.slice A n c, .slice S m d], .int .i64 id] w (RowPost (belowI ks id) w) := by
  unfold belowI
  cases hp : isPl id ks.length
  · exact below_out A S n c m d ks id w hn hp
  · obtain ⟨h0, h1⟩ := (isPl_iff _ _).1 hp
    obtain ⟨i, rfl⟩ := Int.eq_ofNat_of_zero_le h0
    subst hn
    exact below_in A S c m d ks i w hk (by omega) hl hs
end Go.Proofs.Ytgnbempkobgeiaa.Tm
