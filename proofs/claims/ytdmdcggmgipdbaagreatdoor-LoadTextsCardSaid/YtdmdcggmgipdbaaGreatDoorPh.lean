/-
  What the proofs lean on, part 8 of 25.
-/
import Derived.Test.YtdmdcggmgipdbaaGreatDoorPa
import Derived.Test.YtdmdcggmgipdbaaGreatDoorPb
import Derived.Test.YtdmdcggmgipdbaaGreatDoorPg
import Derived.Outline
import Derived.Laws.Append
import Derived.Laws.MakeOwn
import Derived.Laws.CopyOwn
import Derived.Laws.OwnMore
import Derived.OwnWalk
import Derived.Deep.RegionHeld
namespace Go.Proofs.YtdmdcggmgipdbaaGreatDoor.Tm
open Go.RowKit Kit Hs

def RowPost (xs : List Int) (w : World) (e : Ending) (w' : World) : Prop := ∃ A c, e = .returned (.slice A xs.length c) ∧ Ints w' w'.heap.size A xs ∧ Q w w'
/-- what the loop of Below carries -/
structure Bl (W wr : World) (mk : List Bool) (out : List Int) (o : Value) : Prop where
  own : OwnB wr W.heap.size mk
  row : wr.ownsRow (W.heap.size + 1) 3 1 o out.length (cellsI out)
  q : Q W wr
theorem Bl.more {W wr w' : World} {mk : List Bool} {out : List Int} {o : Value} (h : Bl W wr mk out o) (q : Q wr w') : Bl W w' mk out o := by
  refine ⟨h.own.q q, ?_, h.q.trans q⟩
  have hl := h.row
  obtain ⟨h1, h2⟩ := hl
  refine ⟨h1, ?_⟩
  rcases h2 with h2 | ⟨g, cap, cur, e, hg, hh, hr⟩
  · exact .inl h2
  · exact .inr ⟨g, cap, cur, e, hg, (q.block g (Array.getElem?_eq_some_iff.1 hh).1).trans hh, hr⟩
theorem Bl.set {W wr : World} {mk : List Bool} {out : List Int} {o : Value} (h : Bl W wr mk out o) {s : Nat} (hs : s < mk.length) : Bl W (wr.setCell ⟨W.heap.size, s, none⟩ (.bool true)) (mk.set s true) out o := by
  refine ⟨h.own.set hs true, h.row.kept (grown_set _ _ _ _) ?_, h.q.setCell (p := ⟨W.heap.size, s, none⟩) (Nat.le_refl _) _⟩
  cases ho : o.ownBlock with
  | none => exact .inl rfl
  | some g =>
    refine .inr fun e => ?_
    injection e with e
    have := (h.row.lt g ho).1
    omega
theorem snocI (out : List Int) (x : Int) : cellsI out ++ [.int .i64 x] = cellsI (out ++ [x]) := by simp [cellsI]
theorem _root_.Go.Proofs.YtdmdcggmgipdbaaGreatDoor.Hs.Ints.back {w w' : World} {B : Nat} {A : Option Addr} {l : List Int} (h : Ints w' B A l) (hb : Below B w w') : Ints w B A l := fun h0 => by
  obtain ⟨ad, e, hlt, hc⟩ := h h0
  exact ⟨ad, e, hlt, fun i s hs => by rw [← hb.cell (by rw [add_block]; exact hlt)]; exact hc i s hs⟩
theorem Bl.push {W wr w' : World} {mk : List Bool} {out : List Int} {o v' : Value} {x : Int} {t : TypeId} (h : Bl W wr mk out o) (own : w'.ownsRow (W.heap.size + 1) 3 1 v' (out.length + 1) (cellsI out ++ [.int .i64 x])) (hg : (wr.alloc (.cells #[.int .i64 x] t)).grownBy w' o.ownBlock) : Bl W w' mk (out ++ [x]) v' := by
  have hne : some W.heap.size ≠ o.ownBlock := fun e => by
    have := (h.row.lt _ e.symm).1
    omega
  have qa := (Q.refl wr).alloc (.cells #[.int .i64 x] t)
  refine ⟨(h.own.q qa).grown hg hne, ?_, (h.q.trans qa).grown hg (h.q.trans qa).size (fun b hb => by have := (h.row.lt b hb).1; omega)⟩
  rw [List.length_append, List.length_singleton, ← snocI]
  exact own

set_option maxRecDepth 100000 in
set_option maxHeartbeats 4000000 in
theorem below_in (A S : Option Addr) (c m d : Nat) (ks : List (List Int)) (id : Nat) (w : World) (hk : Keys w w.heap.size A ks) (hid : id < ks.length) (hl : ks.length ≤ 5000) (hs : ∀ k ∈ ks, k.length ≤ 100000) :
    Calls Tryz.prog 33 #[.agg #[.slice A ks.length c, .slice S m d], .int .i64 (id : Int)] w (RowPost (belowL ks id) w) := by
  have q0 := (Q.refl w).alloc (Obj.cells #[Value.slice A ks.length c, Value.slice S m d] 26)
  have Hk := Lib.hid ((hk.q (Nat.le_refl _) q0).more q0.size)
  have HB := Lib.hid (BoxT.new w (Value.slice A ks.length c) (Value.slice S m d) 26)
  have hmk : ∀ u : World, (Instr.makeSlice 106 (.int .i64 ((id : Int) + 1)) (.int .i64 ((id : Int) + 1))).run Tryz.prog u = .ok (.slice (some ⟨u.heap.size, 0, none⟩) (id + 1) (id + 1)) (u.alloc (.cells (madeCells #[.bool false] (id + 1)) 4)) := fun u => by
    have := make_bools (id + 1) (by omega) u
    rwa [Int.natCast_add] at this
  have C1 := isPlace_any (id : Int) ks.length
  rw [(isPl_iff _ _).2 (by omega)] at C1
  have HC1 := Lib.hid C1
  have HsM : Hid (∀ y : Nat, (argsOf ks y).length ≤ 100000) := fun y => by
    unfold argsOf termAt
    split
    · rename_i h
      simp only [Bool.and_eq_true, isPl_iff] at h
      have hi : y < ks.length := by omega
      have := hs _ (List.getElem_mem hi)
      simp [ofKey, hi]
      omega
    · simp [Tm.none]
  obtain ⟨i0, hi, hz0, hz1, hz2⟩ := info_parts intInfo
  have Hi := Lib.hid hi
  have Hz0 := Lib.hid hz0
  have Hz1 := Lib.hid hz1
  have Hz2 := Lib.hid hz2
  have j0 : (0 : Int) ≤ (id : Int) := by omega
  have j1 : (id : Int) ≤ 5000 := by omega
  clear hk hs C1 hi hz0 hz1 hz2
  go_enter Tryz.func33, Tryz.ntmps33
  go_wp2_with fail
  generalize w.alloc (Obj.cells #[Value.slice A ks.length c, Value.slice S m d] 26) = W at *
  refine (HC1.out W).mono ?_
  rintro e w1 ⟨rfl, rfl⟩
  have hM := OwnB.made W (id + 1) 4
  have HMs := Lib.hid (hM.set (s := id) (by simp) true)
  have m0 := hM.2 id false (by rw [List.getElem?_replicate, if_pos (by omega)])
  obtain ⟨m1, m2⟩ := m0
  have qM := (Q.refl W).alloc (.cells (madeCells #[.bool false] (id + 1)) 4)
  clear hM
  go_wp2_with fail
  clear hmk
  have HBl0 : Hid (Bl W ((W.alloc (.cells (madeCells #[.bool false] (id + 1)) 4)).setCell ⟨W.heap.size, id, none⟩ (.bool true)) ((List.replicate (id + 1) false).set id true) [] (.slice none 0 0)) := ⟨HMs.out, World.ownsRow_nil _ _ _ _, qM.setCell (p := ⟨W.heap.size, id, none⟩) (Nat.le_refl _) _⟩
  clear m1 m2 qM HMs
  go_loopw [6, 7, 8, 9, 10, 12, 27, 51] (fun o _ _ _ _ _ i _ wr => ∃ (k : Nat) (mk : List Bool) (out : List Int), k ≤ id + 1 ∧ i = .int .i64 k ∧ Hid (mk.length = id + 1) ∧ Hid (belowL ks id = (belF ks (id + 1 - k) mk out).reverse) ∧ Hid (k = 0 → mk[id]? = some true) ∧ Hid (0 < k → 0 < out.length) ∧ out.length ≤ k ∧ Hid (Bl W wr mk out o)) (fun _ _ _ _ _ _ i _ _ => id + 1 - (intOf i).toNat)
  case atStart => exact ⟨0, _, [], Nat.zero_le _, rfl, Lib.hid (by simp), Lib.hid rfl, Lib.hid (fun _ => by rw [List.getElem?_set_self (by simp)]), Lib.hid (fun h => absurd h (by omega)), Nat.le_refl _, (by have h := HBl0.out; rw [World.setCell_alloc_new] at h; exact Lib.hid h)⟩
  case round =>
    clear HBl0
    obtain ⟨k, mk, out, hk, rfl, HL, HF, HS, HP, hol, HBl⟩ := hrel
    have b0 := (HB.out.q HBl.out.q).c0
    have b1 := (HB.out.q HBl.out.q).c1
    by_cases hlt : k ≤ id
    · obtain ⟨n, hn⟩ : ∃ n : Nat, n + k = id := ⟨id - k, by omega⟩
      have hnk : (id : Int) - (k : Int) = (n : Int) := by omega
      have hni : n < id + 1 := by omega
      have hnl : n < ks.length := by omega
      have Hnk := Lib.hid hnk
      have HF1 : Hid (belowL ks id = (belF ks (n + 1) mk out).reverse) := by have := HF.out; rwa [show id + 1 - k = n + 1 by omega] at this
      have hnm : n < mk.length := by have := HL.out; omega
      have hc := HBl.out.own.2 n _ (List.getElem?_eq_getElem hnm)
      obtain ⟨hc1, hc2⟩ := hc
      have n0 : (0 : Int) ≤ (n : Int) := by omega
      have n1 : (n : Int) < (id : Int) + 1 := by omega
      cases hb : mk[n]
      · rw [hb] at hc1
        have HN : Hid (belF ks (n + 1) mk out = belF ks n mk out) := belF_no (by rw [List.getElem?_eq_getElem hnm, hb])
        have HK0 : Hid (0 < k) := by
          rcases Nat.eq_zero_or_pos k with h | h
          · exfalso
            have := HS.out h
            obtain rfl : n = id := by omega
            rw [List.getElem?_eq_getElem hnm, hb] at this
            cases this
          · exact h
        clear hb hn
        go_wp2_with fail
        go_roundw
        case rel => exact ⟨k + 1, mk, out, by omega, by go_num, HL, Lib.hid (by rw [HF1.out, HN.out, show id + 1 - (k + 1) = n by have := Hnk.out; omega]), Lib.hid (fun h => absurd h (by omega)), Lib.hid (fun _ => HP.out HK0.out), by omega, HBl⟩
        case measure => simp [intOf]; omega
      · rw [hb] at hc1
        have HN : Hid (belF ks (n + 1) mk out = belF ks n (markAll n (argsOf ks n) mk) (out ++ [(n : Int)])) := belF_yes (by rw [List.getElem?_eq_getElem hnm, hb])
        have Hsb := Lib.hid (src_block (heap_alloc_new wr (.cells #[.int .i64 (n : Int)] 3)))
        have Hsz := HBl.out.q.size
        have qa := (Q.refl wr).alloc (.cells #[.int .i64 (n : Int)] 3)
        clear hb hn
        go_wp2_with (at_builtin; refine wpList_append_src _ rfl (.tmp 38) (.tmp 40) _ rfl (W.heap.size + 1) 3 i0 _ 1 8 Tryz.underlying24 Hi.out Hz0.out Hz1.out Hz2.out rfl (by omega) _ out.length (cellsI out) rfl (HBl.out.row.alloc _) (some ⟨wr.heap.size, 0, none⟩) 1 1 [.int .i64 (n : Int)] rfl (by simp) Hsb.out (by simp [Value.oneCell']) (by unfold maxLen; omega) (by omega) (by have := HBl.out.own.1; simp; omega) ?_; intro v' w2 own' gr' _; have HBl2 := Lib.hid (HBl.out.push own' gr'); clear own' gr' b0 b1 hc1 hc2; have b0 := (HB.out.q HBl2.out.q).c0; have b1 := (HB.out.q HBl2.out.q).c1)
        refine (lookB_any W.heap.size _ _ _ _ _ _ ks n _ rfl (Hk.out.keep HBl2.out.q) HBl2.out.q.size).mono ?_
        rintro e w3 ⟨A1, N, c1, rfl, hN, hA1, q3⟩
        obtain ⟨t, ht⟩ : ∃ t, (termAt ks (n : Int)).getD .none = t := ⟨_, rfl⟩
        obtain ⟨bb, hbb⟩ : ∃ bb, (termAt ks (n : Int)).isSome = bb := ⟨_, rfl⟩
        have HA : Hid (argsOf ks n = t.xs) := by unfold Hid argsOf; rw [ht]
        rw [ht] at hN hA1 ⊢
        rw [hbb]
        clear ht hbb b0 b1
        have q4 := (Q.refl w3).alloc (Obj.cells #[.int .i64 t.k, .int .i64 t.s, .int .i64 t.p, .slice A1 N c1] 77)
        have HBl4 := Lib.hid ((HBl2.out.more q3).more q4)
        have HI : Hid (Ints W W.heap.size A1 t.xs) := hA1.back (HBl2.out.more q3).q
        have HN' := Lib.hid hN
        have hNl : N ≤ 100000 := by rw [hN, ← HA.out]; exact HsM.out n
        have x3 := (Box4.new w3 (.int .i64 t.k) (.int .i64 t.s) (.int .i64 t.p) (.slice A1 N c1) 77).c3
        clear hN hA1
        go_wp2_with fail
        generalize w3.alloc (Obj.cells #[.int .i64 t.k, .int .i64 t.s, .int .i64 t.p, .slice A1 N c1] 77) = W4 at *
        clear x3
        go_loopw [12, 51] (fun _ i wr' => ∃ (j : Nat) (mk' : List Bool), j ≤ N ∧ i = .int .i64 j ∧ Hid (mk'.length = id + 1) ∧ Hid (markAll n t.xs mk = markAll n (t.xs.drop j) mk') ∧ Hid (Bl W wr' mk' (out ++ [(n : Int)]) v')) (fun _ i _ => N - (intOf i).toNat)
        case atStart => exact ⟨0, mk, Nat.zero_le _, rfl, HL, Lib.hid rfl, HBl4⟩
        case round =>
          obtain ⟨j, mk', hj, rfl, HL', HM', HBl'⟩ := hrel
          by_cases hjN : j < N
          · have hjx : j < t.xs.length := by have := HN'.out; omega
            obtain ⟨ad, rfl, hba, c0⟩ := (HI.out.keep HBl'.out.q).at_ hjx
            have HMs := Lib.hid (markAll_at n t.xs mk' j hjx)
            have C := isPlace_any t.xs[j] n
            cases hp : isPl t.xs[j] n
            · rw [hp] at C
              have HC := Lib.hid C
              have HM2 : Hid (markAll n (t.xs.drop j) mk' = markAll n (t.xs.drop (j + 1)) mk') := by have := HMs.out; rw [hp] at this; exact this
              clear C hp
              go_wp2_with (go_at_call 64; refine (HC.out _).mono ?_; rintro e w' ⟨rfl, rfl⟩)
              go_roundw
              case rel => exact ⟨j + 1, mk', by omega, by go_num, HL', Lib.hid (HM'.out.trans HM2.out), HBl'⟩
              case measure => simp [intOf]; omega
            · rw [hp] at C
              have HC := Lib.hid C
              obtain ⟨p0, p1⟩ := (isPl_iff _ _).1 hp
              obtain ⟨x, hx⟩ := Int.eq_ofNat_of_zero_le p0
              have HM2 : Hid (markAll n (t.xs.drop j) mk' = markAll n (t.xs.drop (j + 1)) (mk'.set x true)) := by have := HMs.out; rw [hp, hx] at this; exact this
              have hxm : x < mk'.length := by have := HL'.out; omega
              have hcx := HBl'.out.own.2 x _ (List.getElem?_eq_getElem hxm)
              obtain ⟨hx1, hx2⟩ := hcx
              rw [hx] at c0 HC p0 p1
              have x1 : (x : Int) < (id : Int) + 1 := by omega
              have Hxm := Lib.hid hxm
              clear C hp hx
              go_wp2_with (go_at_call 64; refine (HC.out _).mono ?_; rintro e w' ⟨rfl, rfl⟩)
              go_roundw
              case rel => exact ⟨j + 1, mk'.set x true, by omega, by go_num, Lib.hid (by rw [List.length_set]; exact HL'.out), Lib.hid (HM'.out.trans HM2.out), Lib.hid (HBl'.out.set Hxm.out)⟩
              case measure => simp [intOf]; omega
          · have HMe := Lib.hid (markAll_end n t.xs mk' j (by have := HN'.out; omega))
            go_wp2_with fail
            go_roundw
            case rel => exact ⟨k + 1, mk', out ++ [(n : Int)], by omega, by go_num, HL', Lib.hid (by rw [HF1.out, HN.out, HA.out, HM'.out, HMe.out, show id + 1 - (k + 1) = n by have := Hnk.out; omega]), Lib.hid (fun h => absurd h (by omega)), Lib.hid (fun _ => by simp), by simp; omega, HBl'⟩
            case measure => simp [intOf]; omega
    · have HF1 : Hid (belowL ks id = out.reverse) := by have := HF.out; rw [show id + 1 - k = 0 by omega] at this; exact this
      have ho := HP.out (by omega)
      obtain ⟨A9, c9, ho2, hle9, hA9⟩ := own_form HBl.out.row
      obtain ⟨g9, rfl, hg9, hg9l, _⟩ := hA9 ho
      subst ho2
      have HO : Hid (OwnI wr g9 out) := OwnI.of_own HBl.out.row
      have qw := HBl.out.q
      clear hA9 hle9 b0 b1
      go_wp2_with fail
      refine (reverse_any _ _ _ out _ rfl HO.out (by omega)).mono ?_
      rintro e w5 ⟨⟨v5, rfl⟩, hO5, hz5, hb5, _⟩
      have HO5 := Lib.hid hO5
      have q5 : Q W w5 := Below.trans qw (hb5.mono (by omega))
      clear hO5 hz5 hb5
      go_wp2_with fail
      go_ret
      refine ⟨some ⟨g9, 0, none⟩, c9, by rw [HF1.out, List.length_reverse]; rfl, by rw [HF1.out]; exact HO5.out.ints, q0.trans q5⟩

set_option maxRecDepth 100000 in
set_option maxHeartbeats 1000000 in
theorem below_out (A S : Option Addr) (n c m d : Nat) (ks : List (List Int)) (id : Int) (w : World) (hn : n = ks.length) (hid : isPl id ks.length = false) :
    Calls Tryz.prog 33 #[.agg #[.slice A n c, .slice S m d], .int .i64 id] w (RowPost [] w) := by
  subst hn
  have q0 := (Q.refl w).alloc (Obj.cells #[Value.slice A ks.length c, Value.slice S m d] 26)
  have C1 := isPlace_any id ks.length
  rw [hid] at C1
  have HC1 := Lib.hid C1
  clear C1 hid
  go_enter Tryz.func33, Tryz.ntmps33
  go_wp2_with (go_at_call 64; refine (HC1.out _).mono ?_; rintro e w' ⟨rfl, rfl⟩)
  go_ret
  exact ⟨none, 0, rfl, fun h => absurd h (by simp), q0⟩
def belowI (ks : List (List Int)) (id : Int) : List Int := if isPl id ks.length then belowL ks id.toNat else []
theorem below_any (A S : Option Addr) (n c m d : Nat) (ks : List (List Int)) (id : Int) (w : World) (hn : n = ks.length) (hk : Keys w w.heap.size A ks) (hl : ks.length ≤ 5000) (hs : ∀ k ∈ ks, k.length ≤ 100000) :
    Calls Tryz.prog 33 #[.agg #[.slice A n c, .slice S m d], .int .i64 id] w (RowPost (belowI ks id) w) := by
  unfold belowI
  cases hp : isPl id ks.length
  · exact below_out A S n c m d ks id w hn hp
  · obtain ⟨h0, h1⟩ := (isPl_iff _ _).1 hp
    obtain ⟨i, rfl⟩ := Int.eq_ofNat_of_zero_le h0
    subst hn
    exact below_in A S c m d ks i w hk (by omega) hl hs
end Go.Proofs.YtdmdcggmgipdbaaGreatDoor.Tm

namespace Go.Proofs.YtdmdcggmgipdbaaGreatDoor.Tm
open Go.RowKit Kit Hs

def first3 : List (List Int) := [[0, 0, 0], [1, 0, 0]]
theorem size2 : sizeN 2 = 8 := by unfold sizeN; rw [sizeG_ge (by omega)]
def NewPost (w : World) (e : Ending) (w' : World) : Prop :=
  ∃ A c S d, e = .returned (.agg #[.slice A 2 c, .slice S 8 d]) ∧ Keys w' w'.heap.size A first3 ∧ Ints w' w'.heap.size S (layI first3) ∧ Q w w'

end Go.Proofs.YtdmdcggmgipdbaaGreatDoor.Tm

namespace Go.Proofs.YtdmdcggmgipdbaaGreatDoor.Tm
open Go.RowKit Kit Hs

theorem keyOk_parts {l : List Sg.Sig} {key : List Int} {i : Nat} (h : keyOk l key i = true) : 3 ≤ key.length ∧ mayB l i (ofKey key) = true ∧ (i < 2 → (ofKey key).k = (i : Int)) := by
  unfold keyOk at h
  simp only [Bool.and_eq_true, decide_eq_true_eq, Bool.not_eq_true', Bool.and_eq_false_iff, decide_eq_false_iff_not, bne_eq_false_iff_eq] at h
  obtain ⟨⟨h1, h2⟩, h3⟩ := h
  exact ⟨h1, h2, fun hi => h3.resolve_left (by omega)⟩
theorem key_of {key : List Int} (h : 3 ≤ key.length) : (ofKey key).key = key := by
  rw [ofKey_at h]
  match key, h with
  | a :: b :: c :: r, _ => rfl
theorem ofKey_key (t : Tm) : ofKey t.key = t := by
  obtain ⟨k, s, p, xs⟩ := t
  rfl
theorem Store.head {l : List Sg.Sig} {ks : List (List Int)} (h : Store l ks) {i : Nat} (hi : i < 2) : ks[i]? = some [(i : Int), 0, 0] := by
  have hlt : i < ks.length := by have := h.two; omega
  have hk := h.ok i _ (List.getElem?_eq_getElem hlt)
  obtain ⟨h3, hm, hk2⟩ := keyOk_parts hk
  have hkk := hk2 hi
  rw [List.getElem?_eq_getElem hlt, ← key_of h3]
  obtain ⟨t, ht⟩ : ∃ t, ofKey ks[i] = t := ⟨_, rfl⟩
  rw [ht] at hkk hm ⊢
  unfold mayB at hm
  simp only [Bool.and_eq_true] at hm
  obtain ⟨⟨hst, hha⟩, _⟩ := hm
  unfold standB at hst
  rw [if_neg (by omega), if_neg (by omega), if_neg (by omega)] at hst
  unfold hasB at hha
  rw [if_neg (by omega)] at hha
  simp only [Bool.and_eq_true, beq_iff_eq] at hst hha
  have hx : t.xs.length = 0 := by
    have h2 := hha.2
    unfold partsN at h2
    rw [if_neg (by omega), if_neg (by omega), if_neg (by omega)] at h2
    omega
  have hx' := List.eq_nil_of_length_eq_zero hx
  simp [Tm.key, hkk, hst.1, hst.2, hx']
theorem Store.first {l : List Sg.Sig} {ks : List (List Int)} (h : Store l ks) : ks.take 2 = first3 := by
  apply List.ext_getElem?
  intro i
  by_cases hi : i < 2
  · rw [List.getElem?_take, if_pos hi, h.head hi]
    match i, hi with
    | 0, _ => rfl
    | 1, _ => rfl
  · rw [List.getElem?_take, if_neg hi]
    exact (List.getElem?_eq_none (by simp [first3]; omega)).symm
theorem _root_.Go.Proofs.YtdmdcggmgipdbaaGreatDoor.Hs.Keys.take {w : World} {B : Nat} {A : Option Addr} {ks : List (List Int)} (h : Keys w B A ks) (n : Nat) : Keys w B A (ks.take n) := fun h0 => by
  obtain ⟨ad, e, hb, hc⟩ := h (by rw [List.length_take] at h0; omega)
  refine ⟨ad, e, hb, fun i k hk => hc i k ?_⟩
  rw [List.getElem?_take] at hk
  split at hk
  · exact hk
  · cases hk
end Go.Proofs.YtdmdcggmgipdbaaGreatDoor.Tm

namespace Go.Proofs.YtdmdcggmgipdbaaGreatDoor.Rw
open Go.RowKit Kit

/-- a slice value that reads these cells, below block B -/
def Rds (w : World) (B : Nat) (A : Option Addr) (cs : List Value) : Prop := 0 < cs.length → ∃ ad, A = some ad ∧ ad.block < B ∧ ∀ j v, cs[j]? = some v → w.cell? (ad.add j) = some v
theorem add_block (a : Addr) (n : Nat) : (a.add n).block = a.block := by unfold Addr.add; split <;> rfl
theorem add_succ (a : Addr) (n : Nat) : a.add (n + 1) = ⟨(a.add n).block, (a.add n).off + 1, none⟩ := by
  unfold Addr.add
  by_cases h : n = 0 <;> simp [h, Nat.add_assoc]
theorem add_zero_head (g j : Nat) : (⟨g, 0, none⟩ : Addr).add j = ⟨g, j, none⟩ := by
  unfold Addr.add
  by_cases h : j = 0 <;> simp [h]
theorem Rds.keep {w w' : World} {B : Nat} {A : Option Addr} {l : List Value} (h : Rds w B A l) (hb : Below B w w') : Rds w' B A l := fun h0 => by
  obtain ⟨ad, e, hlt, hc⟩ := h h0
  exact ⟨ad, e, hlt, fun i s hs => (hb.cell (by rw [add_block]; exact hlt)).trans (hc i s hs)⟩
theorem Rds.more {w : World} {B B' : Nat} {A : Option Addr} {l : List Value} (h : Rds w B A l) (hB : B ≤ B') : Rds w B' A l := fun h0 => by
  obtain ⟨ad, e, hlt, hc⟩ := h h0
  exact ⟨ad, e, by omega, hc⟩
theorem Rds.q {w w' : World} {A : Option Addr} {l : List Value} (h : Rds w w.heap.size A l) (q : Q w w') : Rds w' w'.heap.size A l := (h.keep q).more q.size
theorem Rds.nil (w : World) (B : Nat) (A : Option Addr) : Rds w B A [] := fun h => absurd h (by simp)

theorem Rds.src {w : World} {B : Nat} {A : Option Addr} {l : List Value} (h : Rds w B A l) : Src w A l := fun h0 => by
  obtain ⟨ad, e, _, hc⟩ := h h0
  exact ⟨ad, e, hc⟩

/-- block g holds these cells, from its head on, and may be written -/
def OwnC (w : World) (g : Nat) (cs : List Value) : Prop := g < w.heap.size ∧ ∀ j v, cs[j]? = some v → w.cell? ⟨g, j, none⟩ = some v ∧ w.frozen? ⟨g, j, none⟩ = false
theorem OwnC.rds {w : World} {g : Nat} {cs : List Value} (h : OwnC w g cs) : Rds w w.heap.size (some ⟨g, 0, none⟩) cs := fun _ => ⟨_, rfl, h.1, fun j v hv => by rw [add_zero_head]; exact (h.2 j v hv).1⟩
theorem OwnC.q {w w' : World} {g : Nat} {cs : List Value} (h : OwnC w g cs) (q : Q w w') : OwnC w' g cs :=
  ⟨Nat.lt_of_lt_of_le h.1 q.size, fun i x hx => ⟨(q.cell (p := ⟨g, i, none⟩) h.1).trans (h.2 i x hx).1, (q.frozen (p := ⟨g, i, none⟩) h.1).trans (h.2 i x hx).2⟩⟩
theorem OwnC.far {w : World} {g : Nat} {cs : List Value} (h : OwnC w g cs) {b i : Nat} (hb : b ≠ g) (u : Value) : OwnC (w.setCell ⟨b, i, none⟩ u) g cs :=
  ⟨by simpa [World.setCell] using h.1, fun j v hv => ⟨(World.cell?_setCell_far _ _ _ _ hb).trans (h.2 j v hv).1, by rw [World.frozen?_setCell]; exact (h.2 j v hv).2⟩⟩
theorem OwnC.grown {w w' : World} {g : Nat} {cs : List Value} {row : Option Nat} (h : OwnC w g cs) (hg : w.grownBy w' row) (hr : row ≠ some g) : OwnC w' g cs := by
  have hb := hg.block g h.1 (fun e => hr e.symm)
  exact ⟨Nat.lt_of_lt_of_le h.1 hg.size, fun j v hv => ⟨(World.cell?_of_block (a := ⟨g, j, none⟩) hb).trans (h.2 j v hv).1, (World.frozen?_of_block (a := ⟨g, j, none⟩) hb).trans (h.2 j v hv).2⟩⟩
theorem OwnC.take {w : World} {g : Nat} {cs : List Value} (h : OwnC w g cs) (n : Nat) : OwnC w g (cs.take n) :=
  ⟨h.1, fun j v hv => h.2 j v (by rw [List.getElem?_take] at hv; split at hv; exact hv; cases hv)⟩
theorem setCell_ne {W : World} {B i j : Nat} {v u : Value} (h : i ≠ j) (hc : W.cell? ⟨B, j, none⟩ = some u) : (W.setCell ⟨B, i, none⟩ v).cell? ⟨B, j, none⟩ = some u := by
  have := World.cell?_setCell_other (w := W) (a := ⟨B, i, none⟩) (b := ⟨B, j, none⟩) (v := v) (by intro e; injection e with _ e; exact h e)
  exact this.trans hc
theorem setCell_eq {W : World} {B i : Nat} {v u : Value} (hc : W.cell? ⟨B, i, none⟩ = some u) : (W.setCell ⟨B, i, none⟩ v).cell? ⟨B, i, none⟩ = some v := World.cell?_setCell_same' _ _ _ (by rw [hc]; rfl)
theorem OwnC.set {w : World} {g : Nat} {cs : List Value} (h : OwnC w g cs) {s : Nat} (hs : s < cs.length) (v : Value) : OwnC (w.setCell ⟨g, s, none⟩ v) g (cs.set s v) := by
  refine ⟨by simp [World.setCell]; exact h.1, fun i x hx => ?_⟩
  rw [World.frozen?_setCell]
  by_cases hi : s = i
  · subst hi
    rw [List.getElem?_set_self hs] at hx
    obtain rfl : v = x := by simpa using hx
    have := h.2 s _ (List.getElem?_eq_getElem hs)
    exact ⟨setCell_eq this.1, this.2⟩
  · rw [List.getElem?_set_ne hi] at hx
    exact ⟨setCell_ne hi (h.2 i x hx).1, (h.2 i x hx).2⟩
theorem OwnC.of_row {w : World} {base g n cap size : Nat} {e : TypeId} {cs : List Value} (h : w.ownsRow base e size (.slice (some ⟨g, 0, none⟩) n cap) n cs) : OwnC w g cs := by
  refine ⟨(h.lt g rfl).2, fun j v hv => ⟨?_, h.frozenAt j⟩⟩
  have := h.cells (g := g) rfl j v hv
  rwa [add_zero_head] at this
theorem setCell_grown (w : World) (g j : Nat) (u : Value) : w.grownBy (w.setCell ⟨g, j, none⟩ u) (some g) :=
  ⟨rfl, rfl, rfl, by simp [World.setCell], fun k _ hk => heap_setCell_other w ⟨g, j, none⟩ k u (fun e => hk (by simp [e]))⟩
theorem grown_trans {a b c : World} {row : Option Nat} (h : a.grownBy b row) (k : b.grownBy c row) : a.grownBy c row :=
  ⟨k.os.trans h.os, k.tape.trans h.tape, k.output.trans h.output, Nat.le_trans h.size k.size, fun i hi hr => (k.block i (Nat.lt_of_lt_of_le hi h.size) hr).trans (h.block i hi hr)⟩
theorem grows_q {a b : World} (q : Q a b) (row : Option Nat) : a.grownBy b row := ⟨q.os, q.tape, q.output, q.size, fun i hi _ => q.block i hi⟩
theorem grown_q {a b : World} {g : Nat} (h : a.grownBy b (some g)) {W : World} (hq : Q W a) (hg : W.heap.size ≤ g) : Q W b := Below.grown hq h hq.size (fun k e => by injection e with e; omega)

theorem row_kept {w w' : World} {base base' : Nat} {e : TypeId} {size : Nat} {v : Value} {n : Nat} {xs : List Value} (h : w.ownsRow base e size v n xs) (q : Q w w') (hb : base' ≤ base) : w'.ownsRow base' e size v n xs := by
  have h2 := h.kept (row := none) (grows_q q none) (by cases v.ownBlock <;> simp)
  obtain ⟨a, b⟩ := h2
  refine ⟨a, ?_⟩
  rcases b with b | ⟨g, cap, cur, r1, r2, r⟩
  · exact .inl b
  · exact .inr ⟨g, cap, cur, r1, Nat.le_trans hb r2, r⟩
theorem src_alloc (w : World) (cs : List Value) (t : TypeId) (fr : Nat × Nat) : Src (w.alloc (.cells cs.toArray t fr)) (some ⟨w.heap.size, 0, none⟩) cs := by
  have := src_block (heap_alloc_new w (.cells cs.toArray t fr))
  simpa using this
theorem own_nil (w : World) (base : Nat) (e : TypeId) (size : Nat) : w.ownsRow base e size (.slice none 0 0) 0 [] := ⟨by simp, .inl ⟨rfl, rfl⟩⟩
theorem own_read {w : World} {base size n : Nat} {e : TypeId} {v : Value} {cs : List Value} (h : w.ownsRow base e size v n cs) : ∃ A c, v = .slice A n c ∧ n ≤ c ∧ Rds w w.heap.size A cs := by
  have h2 := h
  obtain ⟨hl, ⟨rfl, h0⟩ | ⟨g, cap, cur, rfl, hg, hh, hc, _⟩⟩ := h
  · subst h0
    exact ⟨none, 0, rfl, by omega, fun h => by omega⟩
  · exact ⟨_, cap, rfl, hc, (OwnC.of_row h2).rds⟩
theorem q_drewN (w : World) {w' : World} (h : ∃ d, w' = w.drewN d) : Q w w' := by
  obtain ⟨d, rfl⟩ := h
  exact (Q.refl w).drewN d
end Go.Proofs.YtdmdcggmgipdbaaGreatDoor.Rw

namespace Go.Proofs.YtdmdcggmgipdbaaGreatDoor.Rw
open Go.RowKit Kit

def bs (l : List UInt8) : ByteArray := ⟨l.toArray⟩
theorem bs_list (l : List UInt8) : (bs l).data.toList = l := by simp [bs]
theorem bs_back (s : ByteArray) : bs s.data.toList = s := by cases s; simp [bs]
theorem bs_size (l : List UInt8) : (bs l).size = l.length := by simp [bs, ByteArray.size]
/-- any token as memory has it: its kind, its text, where it begins -/
abbrev Tg := Int × ByteArray × Int
def cellsG : List Tg → List Value
  | [] => []
  | t :: l => .int .i64 t.1 :: .string t.2.1 :: .int .i64 t.2.2 :: cellsG l
theorem cellsG_len (l : List Tg) : (cellsG l).length = l.length * 3 := by
  induction l with
  | nil => rfl
  | cons s l ih => simp [cellsG, ih]; omega
theorem cellsG_append (a b : List Tg) : cellsG (a ++ b) = cellsG a ++ cellsG b := by
  induction a with
  | nil => rfl
  | cons s l ih => simp [cellsG, ih]
theorem cellsG_one (l : List Tg) : ∀ v ∈ cellsG l, v.oneCell' = true := by
  induction l with
  | nil => simp [cellsG]
  | cons s l ih => simp only [cellsG, List.mem_cons]; rintro v (rfl | rfl | rfl | h); exact rfl; exact rfl; exact rfl; exact ih v h
theorem cellsG_0 (l : List Tg) (i : Nat) : (cellsG l)[i * 3]? = l[i]?.map fun s => Value.int .i64 s.1 := by
  induction l generalizing i with
  | nil => simp [cellsG]
  | cons s l ih =>
    cases i with
    | zero => rfl
    | succ i => rw [show (i + 1) * 3 = i * 3 + 1 + 1 + 1 by omega]; simpa [cellsG] using ih i
theorem cellsG_1 (l : List Tg) (i : Nat) : (cellsG l)[i * 3 + 1]? = l[i]?.map fun s => Value.string s.2.1 := by
  induction l generalizing i with
  | nil => simp [cellsG]
  | cons s l ih =>
    cases i with
    | zero => rfl
    | succ i => rw [show (i + 1) * 3 + 1 = i * 3 + 1 + 1 + 1 + 1 by omega]; simpa [cellsG] using ih i
theorem cellsG_2 (l : List Tg) (i : Nat) : (cellsG l)[i * 3 + 2]? = l[i]?.map fun s => Value.int .i64 s.2.2 := by
  induction l generalizing i with
  | nil => simp [cellsG]
  | cons s l ih =>
    cases i with
    | zero => rfl
    | succ i => rw [show (i + 1) * 3 + 2 = i * 3 + 2 + 1 + 1 + 1 by omega]; simpa [cellsG] using ih i
theorem add_two (a : Addr) (n : Nat) : a.add (n + 2) = ⟨(a.add n).block, (a.add n).off + 2, none⟩ := by
  unfold Addr.add
  by_cases h : n = 0 <;> simp [h, Nat.add_assoc]
theorem tok_at {w : World} {B : Nat} {A : Option Addr} {l : List Tg} (h : Rds w B A (cellsG l)) {k : Nat} (hk : k < l.length) :
    ∃ ad, A = some ad ∧ ad.block < B ∧ w.cell? (ad.add (k * 3)) = some (.int .i64 l[k].1) ∧ w.cell? ⟨(ad.add (k * 3)).block, (ad.add (k * 3)).off + 1, none⟩ = some (.string l[k].2.1) ∧
      w.cell? ⟨(ad.add (k * 3)).block, (ad.add (k * 3)).off + 2, none⟩ = some (.int .i64 l[k].2.2) := by
  obtain ⟨ad, e, hlt, hc⟩ := h (by rw [cellsG_len]; omega)
  refine ⟨ad, e, hlt, hc _ _ (by rw [cellsG_0, List.getElem?_eq_getElem hk]; rfl), ?_, ?_⟩
  · rw [← add_succ]
    exact hc _ _ (by rw [cellsG_1, List.getElem?_eq_getElem hk]; rfl)
  · rw [← add_two]
    exact hc _ _ (by rw [cellsG_2, List.getElem?_eq_getElem hk]; rfl)

/-- two texts are the same -/
def eqS (a b : ByteArray) : Bool := a.toList == b.toList
theorem eqS_iff (a b : ByteArray) : eqS a b = true ↔ a = b := by
  unfold eqS
  rw [beq_iff_eq, ByteArray.toList_eq, ByteArray.toList_eq]
  exact ⟨fun h => ByteArray.ext (Array.toList_inj.mp h), fun h => by rw [h]⟩
def tgEq (a b : Tg) : Bool := (a.1 == b.1) && (eqS a.2.1 b.2.1 && (a.2.2 == b.2.2))
theorem tgEq_iff (a b : Tg) : tgEq a b = true ↔ a = b := by
  unfold tgEq
  rw [Bool.and_eq_true, Bool.and_eq_true, eqS_iff, beq_iff_eq, beq_iff_eq, Prod.ext_iff, Prod.ext_iff]
def sameG : List Tg → List Tg → Bool
  | a :: l, b :: m => tgEq a b && sameG l m
  | _, _ => true
def sameB (l m : List Tg) : Bool := decide (l.length = m.length) && sameG l m
theorem sameG_at (l m : List Tg) (k : Nat) (h : k < l.length) (h' : k < m.length) : sameG (l.drop k) (m.drop k) = (tgEq l[k] m[k] && sameG (l.drop (k + 1)) (m.drop (k + 1))) := by
  rw [List.drop_eq_getElem_cons h, List.drop_eq_getElem_cons h']; rfl
theorem sameG_end (l m : List Tg) (k : Nat) (h : l.length ≤ k) : sameG (l.drop k) (m.drop k) = true := by
  rw [List.drop_eq_nil_of_le h]; rfl
theorem sameG_iff : ∀ (l m : List Tg), l.length = m.length → (sameG l m = true ↔ l = m)
  | [], [], _ => by simp [sameG]
  | a :: l, b :: m, h => by
    rw [sameG, Bool.and_eq_true, tgEq_iff, sameG_iff l m (by simpa using h)]
    simp
theorem sameB_iff (l m : List Tg) : sameB l m = true ↔ l = m := by
  unfold sameB
  rw [Bool.and_eq_true, decide_eq_true_eq]
  constructor
  · rintro ⟨h, g⟩; exact (sameG_iff l m h).1 g
  · rintro rfl; exact ⟨rfl, (sameG_iff l l rfl).2 rfl⟩

end Go.Proofs.YtdmdcggmgipdbaaGreatDoor.Rw

namespace Go.Proofs.YtdmdcggmgipdbaaGreatDoor.Nm
open Go.RowKit Kit

def inB (lo hi c : Int) : Bool := decide (lo ≤ c) && decide (c ≤ hi)

def goesB (c : Int) : Bool := inB 97 122 c || inB 65 90 c || inB 48 57 c || (c == 95)

theorem take_snoc (s : ByteArray) (k : Nat) (h : k < s.size) : s.data.toList.take (k + 1) = s.data.toList.take k ++ [s[k]] := by
  rw [List.take_succ_eq_append_getElem (by simpa using h)]; rfl

def restB (l : List UInt8) : Bool := (l.drop 1).all fun c => goesB c.toNat
theorem restB_snoc (l : List UInt8) (c : UInt8) (h : 1 ≤ l.length) : restB (l ++ [c]) = (restB l && goesB c.toNat) := by
  cases l with
  | nil => simp at h
  | cons a l => simp [restB]

/-- a name whose first byte lies from lo to hi -/
def nameB (lo hi : Int) (l : List UInt8) : Bool :=
  match l with
  | [] => false
  | c :: _ => decide (l.length ≤ 20) && inB lo hi c.toNat && restB l

theorem nameB_short (lo hi : Int) (s : ByteArray) (h : s.size < 1) : nameB lo hi s.data.toList = false := by
  have : s.data.toList.length < 1 := by simpa using h
  match hs : s.data.toList with
  | [] => rfl
  | _ :: _ => rw [hs] at this; simp at this
theorem nameB_long (lo hi : Int) (s : ByteArray) (h : 20 < s.size) : nameB lo hi s.data.toList = false := by
  have h : 20 < s.data.toList.length := by simpa using h
  match hs : s.data.toList with
  | [] => rfl
  | c :: l =>
    rw [hs] at h
    simp only [nameB, decide_eq_false (by omega : ¬ (c :: l).length ≤ 20), Bool.false_and]
theorem nameB_mid (lo hi : Int) (s : ByteArray) (h0 : 0 < s.size) (h : s.size ≤ 20) : nameB lo hi s.data.toList = (inB lo hi (s[0]'h0).toNat && restB s.data.toList) := by
  have h' : s.data.toList.length ≤ 20 := by simpa using h
  have e : s.data.toList = s[0]'h0 :: s.data.toList.drop 1 := by
    exact List.drop_eq_getElem_cons (l := s.data.toList) (i := 0) (by simpa using h0)
  generalize s[0]'h0 = c at e ⊢
  rw [e] at h'
  rw [e]
  simp only [nameB, decide_eq_true h', Bool.true_and]

theorem small_any (c : Int) (w : World) :
    Calls Tryz.prog 82 #[.int .u8 c] w fun e w' => e = .returned (.bool (inB 97 122 c)) ∧ w = w' := by
  by_cases h : 97 ≤ c
  · have d : decide (97 ≤ c) = true := by simpa using h
    have HR : Hid (inB 97 122 c = decide (c ≤ 122)) := by unfold Hid inB; rw [d]; rfl
    go_enter Tryz.func82, Tryz.ntmps82
    go_wp2_with fail
    go_ret
    exact ⟨by rw [HR.out]; rfl, rfl⟩
  · have d : decide (97 ≤ c) = false := by simpa using h
    have HR : Hid (inB 97 122 c = false) := by unfold Hid inB; rw [d]; rfl
    go_enter Tryz.func82, Tryz.ntmps82
    go_wp2_with fail
    go_ret
    exact ⟨by rw [HR.out]; rfl, rfl⟩
theorem big_any (c : Int) (w : World) :
    Calls Tryz.prog 63 #[.int .u8 c] w fun e w' => e = .returned (.bool (inB 65 90 c)) ∧ w = w' := by
  by_cases h : 65 ≤ c
  · have d : decide (65 ≤ c) = true := by simpa using h
    have HR : Hid (inB 65 90 c = decide (c ≤ 90)) := by unfold Hid inB; rw [d]; rfl
    go_enter Tryz.func63, Tryz.ntmps63
    go_wp2_with fail
    go_ret
    exact ⟨by rw [HR.out]; rfl, rfl⟩
  · have d : decide (65 ≤ c) = false := by simpa using h
    have HR : Hid (inB 65 90 c = false) := by unfold Hid inB; rw [d]; rfl
    go_enter Tryz.func63, Tryz.ntmps63
    go_wp2_with fail
    go_ret
    exact ⟨by rw [HR.out]; rfl, rfl⟩

def letB (c : Int) : Bool := inB 97 122 c || inB 65 90 c
def figB (c : Int) : Bool := inB 48 57 c || (c == 95)
def okAt (k : Nat) (c : Int) : Bool := letB c || (!(k == 0) && figB c)
def okFrom : List UInt8 → Nat → Bool
  | [], _ => true
  | c :: l, k => okAt k c.toNat && okFrom l (k + 1)
def nmB (l : List UInt8) : Bool := decide (1 ≤ l.length) && decide (l.length ≤ 20) && okFrom l 0
theorem okFrom_at (l : List UInt8) (k : Nat) (h : k < l.length) : okFrom (l.drop k) k = (okAt k l[k].toNat && okFrom (l.drop (k + 1)) (k + 1)) := by
  rw [List.drop_eq_getElem_cons h]; rfl
theorem okFrom_end (l : List UInt8) (k : Nat) (h : l.length ≤ k) : okFrom (l.drop k) k = true := by
  rw [List.drop_eq_nil_of_le h]; rfl
theorem okFrom_rest : ∀ (l : List UInt8) (k : Nat), okFrom l (k + 1) = l.all fun c => goesB c.toNat
  | [], _ => rfl
  | c :: l, k => by
    show (okAt (k + 1) c.toNat && okFrom l (k + 2)) = (goesB c.toNat && _)
    rw [okFrom_rest l (k + 1)]
    have e : okAt (k + 1) c.toNat = goesB c.toNat := by
      unfold okAt letB figB goesB
      generalize inB 97 122 c.toNat = p, inB 65 90 c.toNat = q, inB 48 57 c.toNat = r, ((c.toNat : Int) == 95) = t
      rw [show ((k + 1) == 0) = false by simp]
      revert p q r t; decide
    rw [e]
theorem con_of_nm (l : List UInt8) (h : 0 < l.length) : (nmB l && inB 97 122 (l[0].toNat : Int)) = nameB 97 122 l := by
  match l, h with
  | c :: l, _ =>
    simp only [List.getElem_cons_zero]
    show (decide (1 ≤ (c :: l).length) && decide ((c :: l).length ≤ 20) && (okAt 0 c.toNat && okFrom l (0 + 1)) && _) = (decide ((c :: l).length ≤ 20) && inB 97 122 c.toNat && l.all _)
    rw [okFrom_rest l 0, decide_eq_true (by simp : 1 ≤ (c :: l).length)]
    unfold okAt letB
    generalize inB 97 122 c.toNat = p, inB 65 90 c.toNat = q, (l.all fun c => goesB c.toNat) = r, decide ((c :: l).length ≤ 20) = t, figB c.toNat = u
    revert p q r t u; decide

set_option maxRecDepth 100000 in
set_option maxHeartbeats 400000 in
theorem name_any (s : ByteArray) (w : World) :
    Calls Tryz.prog 62 #[.string s] w fun e w' => e = .returned (.bool (nmB s.data.toList)) ∧ w = w' := by
  have hlen : s.data.toList.length = s.size := by simp
  by_cases h0 : s.size < 1
  · have HR : Hid (nmB s.data.toList = false) := by unfold Hid nmB; rw [hlen, decide_eq_false (by omega)]; rfl
    clear hlen
    go_enter Tryz.func62, Tryz.ntmps62
    go_wp2_with fail
    go_ret
    exact ⟨by rw [HR.out]; rfl, rfl⟩
  · by_cases h20 : 20 < s.size
    · have HR : Hid (nmB s.data.toList = false) := by unfold Hid nmB; rw [hlen, decide_eq_false (by omega : ¬ s.size ≤ 20), Bool.and_false]; rfl
      clear hlen
      go_enter Tryz.func62, Tryz.ntmps62
      go_wp2_with fail
      go_ret
      exact ⟨by rw [HR.out]; rfl, rfl⟩
    · have HR : Hid (nmB s.data.toList = okFrom s.data.toList 0) := by unfold Hid nmB; rw [hlen, decide_eq_true (by omega), decide_eq_true (by omega)]; rfl
      have d1 : decide ((s.size : Int) < 1) = false := by simp; omega
      have d2 : decide (20 < (s.size : Int)) = false := by simp; omega
      clear hlen
      go_enter Tryz.func62, Tryz.ntmps62
      go_wp2_with fail
      go_loop [3, 4, 5] (fun i _ _ => ∃ k : Nat, k ≤ s.size ∧ i = .int .i64 k ∧ Hid (okFrom s.data.toList 0 = okFrom (s.data.toList.drop k) k)) (fun i _ _ => s.size - (intOf i).toNat)
      case atStart => exact ⟨0, Nat.zero_le _, rfl, Lib.hid (by simp)⟩
      case round =>
        obtain ⟨k, hk, rfl, HF⟩ := hrel
        by_cases hlt : k < s.size
        · have HS : Hid (okFrom (s.data.toList.drop k) k = (okAt k s[k].toNat && okFrom (s.data.toList.drop (k + 1)) (k + 1))) := okFrom_at s.data.toList k (by simpa using hlt)
          go_upto_region 6 with fail
          go_cut [4] (fun f wx => f = .bool (figB s[k].toNat) ∧ wx = w)
          case first =>
            go_wp2_with fail
            all_goals go_meet
            all_goals
              refine ⟨congrArg Value.bool ?_, rfl⟩
              rw [Bool.eq_iff_iff]
              simp only [figB, inB, Bool.or_eq_true, Bool.and_eq_true, decide_eq_true_eq, beq_iff_eq]
              first | omega | (refine ⟨fun _ => ?_, fun _ => trivial⟩; omega)
          case rest =>
            obtain ⟨rfl, rfl⟩ := hcut
            have HO : Hid (okAt k s[k].toNat = (inB 97 122 s[k].toNat || inB 65 90 s[k].toNat || (!(k == 0) && figB s[k].toNat))) := rfl
            cases hp : inB 97 122 s[k].toNat
            · cases hq : inB 65 90 s[k].toNat
              · by_cases hk0 : k = 0
                · have HS' : Hid (okFrom (s.data.toList.drop k) k = false) := by unfold Hid; rw [HS.out, HO.out, hp, hq, show (k == 0) = true by simpa using hk0]; rfl
                  have hk0' : ((k : Int) == 0) = true := by simpa using hk0
                  clear hk0
                  go_wp2_with (first | (go_at_call 82; refine (small_any _ _).mono ?_; rintro e w' ⟨rfl, rfl⟩) | (go_at_call 63; refine (big_any _ _).mono ?_; rintro e w' ⟨rfl, rfl⟩))
                  go_ret
                  exact ⟨by rw [HR.out, HF.out, HS'.out]; rfl, rfl⟩
                · have hk0' : ((k : Int) == 0) = false := by simpa using hk0
                  have hk1 : (k == 0) = false := by simpa using hk0
                  cases hf : figB s[k].toNat
                  · have HS' : Hid (okFrom (s.data.toList.drop k) k = false) := by unfold Hid; rw [HS.out, HO.out, hp, hq, hk1, hf]; rfl
                    clear hk0 hk1
                    go_wp2_with (first | (go_at_call 82; refine (small_any _ _).mono ?_; rintro e w' ⟨rfl, rfl⟩) | (go_at_call 63; refine (big_any _ _).mono ?_; rintro e w' ⟨rfl, rfl⟩))
                    go_ret
                    exact ⟨by rw [HR.out, HF.out, HS'.out]; rfl, rfl⟩
                  · have HS' : Hid (okFrom (s.data.toList.drop k) k = okFrom (s.data.toList.drop (k + 1)) (k + 1)) := by unfold Hid; rw [HS.out, HO.out, hp, hq, hk1, hf]; rfl
                    clear hk0 hk1
                    go_wp2_with (first | (go_at_call 82; refine (small_any _ _).mono ?_; rintro e w' ⟨rfl, rfl⟩) | (go_at_call 63; refine (big_any _ _).mono ?_; rintro e w' ⟨rfl, rfl⟩))
                    go_round
                    case rel => exact ⟨k + 1, by omega, by go_num, Lib.hid (HF.out.trans HS'.out)⟩
                    case measure => simp [intOf]; omega
              · have HS' : Hid (okFrom (s.data.toList.drop k) k = okFrom (s.data.toList.drop (k + 1)) (k + 1)) := by unfold Hid; rw [HS.out, HO.out, hp, hq]; rfl
                go_wp2_with (first | (go_at_call 82; refine (small_any _ _).mono ?_; rintro e w' ⟨rfl, rfl⟩) | (go_at_call 63; refine (big_any _ _).mono ?_; rintro e w' ⟨rfl, rfl⟩))
                go_round
                case rel => exact ⟨k + 1, by omega, by go_num, Lib.hid (HF.out.trans HS'.out)⟩
                case measure => simp [intOf]; omega
            · have HS' : Hid (okFrom (s.data.toList.drop k) k = okFrom (s.data.toList.drop (k + 1)) (k + 1)) := by unfold Hid; rw [HS.out, HO.out, hp]; rfl
              go_wp2_with (first | (go_at_call 82; refine (small_any _ _).mono ?_; rintro e w' ⟨rfl, rfl⟩) | (go_at_call 63; refine (big_any _ _).mono ?_; rintro e w' ⟨rfl, rfl⟩))
              go_round
              case rel => exact ⟨k + 1, by omega, by go_num, Lib.hid (HF.out.trans HS'.out)⟩
              case measure => simp [intOf]; omega
        · have HS := Lib.hid (okFrom_end s.data.toList k (by simp; omega))
          go_wp2_with fail
          go_ret
          exact ⟨by rw [HR.out, HF.out, HS.out]; rfl, rfl⟩

set_option maxRecDepth 100000 in
set_option maxHeartbeats 400000 in
theorem con_any (s : ByteArray) (w : World) :
    Calls Tryz.prog 56 #[.string s] w fun e w' => e = .returned (.bool (nameB 97 122 s.data.toList)) ∧ w = w' := by
  by_cases h0 : 0 < s.size
  · have HC : Hid ((nmB s.data.toList && inB 97 122 s[0].toNat) = nameB 97 122 s.data.toList) := con_of_nm s.data.toList (by simpa using h0)
    cases hn : nmB s.data.toList
    · rw [hn] at HC
      go_enter Tryz.func56, Tryz.ntmps56
      go_wp2_with fail
      refine (name_any _ _).mono ?_
      rintro e w1 ⟨rfl, rfl⟩
      go_wp2_with fail
      go_ret
      exact ⟨by rw [← HC.out]; rfl, rfl⟩
    · rw [hn] at HC
      go_enter Tryz.func56, Tryz.ntmps56
      go_wp2_with fail
      refine (name_any _ _).mono ?_
      rintro e w1 ⟨rfl, rfl⟩
      go_wp2_with fail
      refine (small_any _ _).mono ?_
      rintro e w1 ⟨rfl, rfl⟩
      go_wp2_with fail
      go_ret
      exact ⟨by rw [← HC.out]; rfl, rfl⟩
  · have e : s.data.toList = [] := List.eq_nil_of_length_eq_zero (by have : s.data.toList.length = s.size := by simp
                                                                     omega)
    have hn : nmB s.data.toList = false := by rw [e]; rfl
    have HR : Hid (nameB 97 122 s.data.toList = false) := by unfold Hid; rw [e]; rfl
    clear e
    go_enter Tryz.func56, Tryz.ntmps56
    go_wp2_with fail
    refine (name_any _ _).mono ?_
    rintro e w1 ⟨rfl, rfl⟩
    go_wp2_with fail
    go_ret
    exact ⟨by rw [HR.out]; rfl, rfl⟩

theorem var_of_nm (l : List UInt8) (h : 0 < l.length) : (nmB l && inB 65 90 (l[0].toNat : Int)) = nameB 65 90 l := by
  match l, h with
  | c :: l, _ =>
    simp only [List.getElem_cons_zero]
    show (decide (1 ≤ (c :: l).length) && decide ((c :: l).length ≤ 20) && (okAt 0 c.toNat && okFrom l (0 + 1)) && _) = (decide ((c :: l).length ≤ 20) && inB 65 90 c.toNat && l.all _)
    rw [okFrom_rest l 0, decide_eq_true (by simp : 1 ≤ (c :: l).length)]
    unfold okAt letB
    generalize inB 97 122 c.toNat = p, inB 65 90 c.toNat = q, (l.all fun c => goesB c.toNat) = r, decide ((c :: l).length ≤ 20) = t, figB c.toNat = u
    revert p q r t u; decide

set_option maxRecDepth 100000 in
set_option maxHeartbeats 400000 in
theorem var_any (s : ByteArray) (w : World) :
    Calls Tryz.prog 31 #[.string s] w fun e w' => e = .returned (.bool (nameB 65 90 s.data.toList)) ∧ w = w' := by
  by_cases h0 : 0 < s.size
  · have HC : Hid ((nmB s.data.toList && inB 65 90 s[0].toNat) = nameB 65 90 s.data.toList) := var_of_nm s.data.toList (by simpa using h0)
    cases hn : nmB s.data.toList
    · rw [hn] at HC
      go_enter Tryz.func31, Tryz.ntmps31
      go_wp2_with fail
      refine (name_any _ _).mono ?_
      rintro e w1 ⟨rfl, rfl⟩
      go_wp2_with fail
      go_ret
      exact ⟨by rw [← HC.out]; rfl, rfl⟩
    · rw [hn] at HC
      go_enter Tryz.func31, Tryz.ntmps31
      go_wp2_with fail
      refine (name_any _ _).mono ?_
      rintro e w1 ⟨rfl, rfl⟩
      go_wp2_with fail
      refine (big_any _ _).mono ?_
      rintro e w1 ⟨rfl, rfl⟩
      go_wp2_with fail
      go_ret
      exact ⟨by rw [← HC.out]; rfl, rfl⟩
  · have e : s.data.toList = [] := List.eq_nil_of_length_eq_zero (by have : s.data.toList.length = s.size := by simp
                                                                     omega)
    have hn : nmB s.data.toList = false := by rw [e]; rfl
    have HR : Hid (nameB 65 90 s.data.toList = false) := by unfold Hid; rw [e]; rfl
    clear e
    go_enter Tryz.func31, Tryz.ntmps31
    go_wp2_with fail
    refine (name_any _ _).mono ?_
    rintro e w1 ⟨rfl, rfl⟩
    go_wp2_with fail
    go_ret
    exact ⟨by rw [HR.out]; rfl, rfl⟩

end Go.Proofs.YtdmdcggmgipdbaaGreatDoor.Nm
