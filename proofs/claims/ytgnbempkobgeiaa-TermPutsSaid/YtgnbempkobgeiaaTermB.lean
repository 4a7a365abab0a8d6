/-
  Contracts of look and of the two Ofs: the term at a place.
-/
import Derived.Test.YtgnbempkobgeiaaTermA
namespace Go.Proofs.Ytgnbempkobgeiaa.Tm
open Go.RowKit Kit Hs

structure Tm where
  k : Int
  s : Int
  p : Int
  xs : List Int
def Tm.none : Tm := ⟨0, 0, 0, []⟩
def Tm.key (t : Tm) : List Int := t.k :: t.s :: t.p :: t.xs
def ofKey (key : List Int) : Tm := ⟨key[0]?.getD 0, key[1]?.getD 0, key[2]?.getD 0, key.drop 3⟩
/-- the term at a place; none, if there is none -/
def termAt (ks : List (List Int)) (id : Int) : Option Tm := if isPl id ks.length && decide (3 ≤ (ks[id.toNat]?.getD []).length) then some (ofKey (ks[id.toNat]?.getD [])) else none
theorem termAt_at {ks : List (List Int)} {i : Nat} (h : i < ks.length) (h3 : 3 ≤ ks[i].length) : termAt ks (i : Int) = some (ofKey ks[i]) := by
  have e : isPl (i : Int) ks.length = true := (isPl_iff _ _).2 (by omega)
  simp [termAt, e, h, h3]
theorem termAt_short {ks : List (List Int)} {i : Nat} (h : i < ks.length) (h3 : ks[i].length < 3) : termAt ks (i : Int) = none := by
  have e : isPl (i : Int) ks.length = true := (isPl_iff _ _).2 (by omega)
  have : ¬ 3 ≤ ks[i].length := by omega
  simp [termAt, h, this]
theorem termAt_out {ks : List (List Int)} {id : Int} (h : isPl id ks.length = false) : termAt ks id = none := by simp [termAt, h]
def LookPost (ks : List (List Int)) (id : Int) (w : World) (e : Ending) (w' : World) : Prop :=
  ∃ A n c, e = .returned (.tuple #[.agg #[.int .i64 ((termAt ks id).getD .none).k, .int .i64 ((termAt ks id).getD .none).s, .int .i64 ((termAt ks id).getD .none).p, .slice A n c], .bool (termAt ks id).isSome]) ∧ n = ((termAt ks id).getD .none).xs.length ∧ Ints w' w'.heap.size A ((termAt ks id).getD .none).xs ∧ Q w w'
theorem look_none {ks : List (List Int)} {id : Int} {w w' : World} (h : termAt ks id = none) (q : Q w w') : LookPost ks id w (.returned (.tuple #[.agg #[.int .i64 0, .int .i64 0, .int .i64 0, .slice none 0 0], .bool false])) w' := by
  unfold LookPost
  rw [h]
  exact ⟨none, 0, 0, rfl, rfl, fun h => absurd h (by simp [Tm.none]), q⟩

theorem look_some {ks : List (List Int)} {id : Int} {w w' : World} {t : Tm} {A : Option Addr} {n c : Nat} (h : termAt ks id = some t) (hn : n = t.xs.length) (hA : Ints w' w'.heap.size A t.xs) (q : Q w w') : LookPost ks id w (.returned (.tuple #[.agg #[.int .i64 t.k, .int .i64 t.s, .int .i64 t.p, .slice A n c], .bool true])) w' := by
  unfold LookPost
  rw [h]
  exact ⟨A, n, c, rfl, hn, hA, q⟩
theorem termAt_key {ks : List (List Int)} {i : Nat} (h : i < ks.length) (h3 : 3 ≤ ks[i].length) : termAt ks (i : Int) = some ⟨ks[i][0], ks[i][1], ks[i][2], ks[i].drop 3⟩ := by
  rw [termAt_at h h3]
  have h0 : 0 < ks[i].length := by omega
  have h1 : 1 < ks[i].length := by omega
  have h2 : 2 < ks[i].length := by omega
  simp [ofKey, h0, h1, h2]
theorem drop_ints {w w' : World} {ad : Addr} {key : List Int} (hc : ∀ (i : Nat) (x : Int), key[i]? = some x → w.cell? (ad.add i) = some (.int .i64 x)) (hb : ad.block < w.heap.size) (q : Q w w') (n : Nat) : Ints w' w'.heap.size (some (ad.add n)) (key.drop n) := fun _ => by
  refine ⟨_, rfl, by rw [add_block]; exact Nat.lt_of_lt_of_le hb q.size, fun i x hx => ?_⟩
  rw [List.getElem?_drop] at hx
  rw [Addr.add_add, q.cell (by rw [add_block]; exact hb)]
  exact hc _ x hx
theorem add_three (ad : Addr) : ad.add 3 = ⟨ad.block, ad.off + 3, none⟩ := rfl

set_option maxRecDepth 100000 in
set_option maxHeartbeats 1000000 in
theorem look_any (A S : Option Addr) (n c m d : Nat) (ks : List (List Int)) (id : Int) (w : World) (hn : n = ks.length) (hk : Keys w w.heap.size A ks) :
    Calls Try.prog 36 #[.agg #[.slice A n c, .slice S m d], .int .i64 id] w (LookPost ks id w) := by
  subst hn
  have q0 := ((Q.refl w).alloc (Obj.cells #[Value.slice A ks.length c, Value.slice S m d] 26)).alloc (Obj.cells #[.int .i64 0, .int .i64 0, .int .i64 0, .slice none 0 0] 28)
  cases hp : isPl id ks.length
  · have HT := Lib.hid (termAt_out hp)
    clear hk
    go_enter Try.func36, Try.ntmps36
    go_wp2_with (go_at_call 35; refine (isPlace_any _ _ _).mono ?_; rintro e w' ⟨rfl, rfl⟩)
    refine bodyPost_ret (v := .tuple #[.agg #[.int .i64 0, .int .i64 0, .int .i64 0, .slice none 0 0], .bool false]) (by simp [results, Try.f36, go_sem]) rfl (look_none HT.out q0)
  · obtain ⟨h0, h1⟩ := (isPl_iff _ _).1 hp
    obtain ⟨i, rfl⟩ := Int.eq_ofNat_of_zero_le h0
    have hlt : i < ks.length := by omega
    obtain ⟨ad, rfl, hb, a, c1, hle, c0, hi⟩ := hk.at_ hlt
    by_cases h3 : 3 ≤ ks[i].length
    · have HT := Lib.hid (termAt_key hlt h3)
      obtain ⟨ad1, rfl, hb1, hc1⟩ := hi (by omega)
      have k0 := hc1 0 _ (List.getElem?_eq_getElem (show 0 < ks[i].length by omega))
      have k1 := hc1 1 _ (List.getElem?_eq_getElem (show 1 < ks[i].length by omega))
      have k2 := hc1 2 _ (List.getElem?_eq_getElem (show 2 < ks[i].length by omega))
      have hsl := slice_l (some ad1) ks[i].length c1 3 h3
      have d3 : decide (ks[i].length < 3) = false := decide_eq_false (by omega)
      have Hc := Lib.hid hc1
      have c0' := (q0.cell (p := ad.add i) (by rw [add_block]; exact hb)).trans c0
      have k0' : ((w.alloc (Obj.cells #[Value.slice (some ad) ks.length c, Value.slice S m d] 26)).alloc (Obj.cells #[.int .i64 0, .int .i64 0, .int .i64 0, .slice none 0 0] 28)).cell? ad1 = some (.int .i64 ks[i][0]) := (q0.cell (by exact hb1)).trans (by simpa [Addr.add] using k0)
      have k1' : ((w.alloc (Obj.cells #[Value.slice (some ad) ks.length c, Value.slice S m d] 26)).alloc (Obj.cells #[.int .i64 0, .int .i64 0, .int .i64 0, .slice none 0 0] 28)).cell? ⟨ad1.block, ad1.off + 1, none⟩ = some (.int .i64 ks[i][1]) := (q0.cell (by exact hb1)).trans (by simpa [Addr.add] using k1)
      have k2' : ((w.alloc (Obj.cells #[Value.slice (some ad) ks.length c, Value.slice S m d] 26)).alloc (Obj.cells #[.int .i64 0, .int .i64 0, .int .i64 0, .slice none 0 0] 28)).cell? ⟨ad1.block, ad1.off + 2, none⟩ = some (.int .i64 ks[i][2]) := (q0.cell (by exact hb1)).trans (by simpa [Addr.add] using k2)
      clear hk hc1 hi c0 k0 k1 k2
      go_enter Try.func36, Try.ntmps36
      go_wp2_with (go_at_call 35; refine (isPlace_any _ _ _).mono ?_; rintro e w' ⟨rfl, rfl⟩)
      go_region
      all_goals go_wp2_with fail
      · rename_i h
        have qW : Q w (((w.alloc (Obj.cells #[Value.slice (some ad) ks.length c, Value.slice S m d] 26)).alloc (Obj.cells #[.int .i64 ks[i][0], .int .i64 ks[i][1], .int .i64 ks[i][2], .slice (some ad1) (ks[i].length - 3) 0] 28)).drew) := (((Q.refl w).alloc _).alloc _).drew
        refine bodyPost_ret (v := .tuple #[.agg #[.int .i64 ks[i][0], .int .i64 ks[i][1], .int .i64 ks[i][2], .slice (some ad1) (ks[i].length - 3) 0], .bool true]) (by simp [results, Try.f36, go_sem]) rfl (look_some HT.out (by simp) (fun h0 => ?_) qW)
        rw [List.length_drop] at h0
        omega
      · have qW : Q w (((w.alloc (Obj.cells #[Value.slice (some ad) ks.length c, Value.slice S m d] 26)).alloc (Obj.cells #[.int .i64 ks[i][0], .int .i64 ks[i][1], .int .i64 ks[i][2], .slice (some ⟨ad1.block, ad1.off + 3, none⟩) (ks[i].length - 3) (c1 - 3)] 28)).drew) := (((Q.refl w).alloc _).alloc _).drew
        refine bodyPost_ret (v := .tuple #[.agg #[.int .i64 ks[i][0], .int .i64 ks[i][1], .int .i64 ks[i][2], .slice (some ⟨ad1.block, ad1.off + 3, none⟩) (ks[i].length - 3) (c1 - 3)], .bool true]) (by simp [results, Try.f36, go_sem]) rfl (look_some HT.out (by simp) ?_ qW)
        exact drop_ints Hc.out hb1 qW 3
    · have HT := Lib.hid (termAt_short hlt (Nat.lt_of_not_le h3))
      have d3 : decide (ks[i].length < 3) = true := decide_eq_true (by omega)
      have c0' := (q0.cell (p := ad.add i) (by rw [add_block]; exact hb)).trans c0
      clear hk hi c0
      go_enter Try.func36, Try.ntmps36
      go_wp2_with (go_at_call 35; refine (isPlace_any _ _ _).mono ?_; rintro e w' ⟨rfl, rfl⟩)
      exact bodyPost_ret (v := .tuple #[.agg #[.int .i64 0, .int .i64 0, .int .i64 0, .slice none 0 0], .bool false]) (by simp [results, Try.f36, go_sem]) rfl (look_none HT.out q0)
end Go.Proofs.Ytgnbempkobgeiaa.Tm
