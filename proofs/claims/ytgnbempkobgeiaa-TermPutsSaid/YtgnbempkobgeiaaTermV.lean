/-
  Contract of look with where its Args lie; contract of slices.Reverse.
-/
import Derived.Test.YtgnbempkobgeiaaTermU
namespace Go.Proofs.Ytgnbempkobgeiaa.Tm
open Go.RowKit Kit Hs

def LookB (B : Nat) (ks : List (List Int)) (id : Int) (w : World) (e : Ending) (w' : World) : Prop :=
  ∃ A n c, e = .returned (.tuple #[.agg #[.int .i64 ((termAt ks id).getD .none).k, .int .i64 ((termAt ks id).getD .none).s, .int .i64 ((termAt ks id).getD .none).p, .slice A n c], .bool (termAt ks id).isSome]) ∧ n = ((termAt ks id).getD .none).xs.length ∧ Ints w' B A ((termAt ks id).getD .none).xs ∧ Q w w'
theorem lookB_none {B : Nat} {ks : List (List Int)} {id : Int} {w w' : World} (h : termAt ks id = none) (q : Q w w') : LookB B ks id w (.returned (.tuple #[.agg #[.int .i64 0, .int .i64 0, .int .i64 0, .slice none 0 0], .bool false])) w' := by
  unfold LookB
  rw [h]
  exact ⟨none, 0, 0, rfl, rfl, fun h => absurd h (by simp [Tm.none]), q⟩
theorem lookB_some {B : Nat} {ks : List (List Int)} {id : Int} {w w' : World} {t : Tm} {A : Option Addr} {n c : Nat} (h : termAt ks id = some t) (hn : n = t.xs.length) (hA : Ints w' B A t.xs) (q : Q w w') : LookB B ks id w (.returned (.tuple #[.agg #[.int .i64 t.k, .int .i64 t.s, .int .i64 t.p, .slice A n c], .bool true])) w' := by
  unfold LookB
  rw [h]
  exact ⟨A, n, c, rfl, hn, hA, q⟩
theorem drop_intsB {w w' : World} {B : Nat} {ad : Addr} {key : List Int} (hc : ∀ (i : Nat) (x : Int), key[i]? = some x → w.cell? (ad.add i) = some (.int .i64 x)) (hb : ad.block < B) (hB : B ≤ w.heap.size) (q : Q w w') (n : Nat) : Ints w' B (some (ad.add n)) (key.drop n) := fun _ => by
  refine ⟨_, rfl, by rw [add_block]; exact hb, fun i x hx => ?_⟩
  rw [List.getElem?_drop] at hx
  rw [Addr.add_add, q.cell (by rw [add_block]; exact Nat.lt_of_lt_of_le hb hB)]
  exact hc _ x hx

set_option maxRecDepth 100000 in
set_option maxHeartbeats 1000000 in
theorem lookB_any (Bd : Nat) (A S : Option Addr) (n c m d : Nat) (ks : List (List Int)) (id : Int) (w : World) (hn : n = ks.length) (hk : Keys w Bd A ks) (hBd : Bd ≤ w.heap.size) :
    Calls Try.prog 36 #[.agg #[.slice A n c, .slice S m d], .int .i64 id] w (LookB Bd ks id w) := by
  subst hn
  have q0 := ((Q.refl w).alloc (Obj.cells #[Value.slice A ks.length c, Value.slice S m d] 26)).alloc (Obj.cells #[.int .i64 0, .int .i64 0, .int .i64 0, .slice none 0 0] 28)
  cases hp : isPl id ks.length
  · have HT := Lib.hid (termAt_out hp)
    clear hk
    go_enter Try.func36, Try.ntmps36
    go_wp2_with (go_at_call 35; refine (isPlace_any _ _ _).mono ?_; rintro e w' ⟨rfl, rfl⟩)
    refine bodyPost_ret (v := .tuple #[.agg #[.int .i64 0, .int .i64 0, .int .i64 0, .slice none 0 0], .bool false]) (by simp [results, Try.f36, go_sem]) rfl (lookB_none HT.out q0)
  · obtain ⟨h0, h1⟩ := (isPl_iff _ _).1 hp
    obtain ⟨i, rfl⟩ := Int.eq_ofNat_of_zero_le h0
    have hlt : i < ks.length := by omega
    obtain ⟨ad, rfl, hb, a, c1, hle, c0, hi⟩ := hk.at_ hlt
    by_cases h3 : 3 ≤ ks[i].length
    · have HT := Lib.hid (termAt_key hlt h3)
      obtain ⟨ad1, rfl, hb1, hc1⟩ := hi (by omega)
      have k0 := hc1 0 _ (List.getElem?_eq_getElem (show 0 < ks[i].length by omega))
      have k1 := hc1 1 _ (List.getElem?_eq_getElem (show 1 < ks[i].length by omega))
      have k2 := hc1 2 _ (List.getElem?_eq_getElem (show 2 < ks[i].length by omega))
      have hsl := slice_l (some ad1) ks[i].length c1 3 h3
      have d3 : decide (ks[i].length < 3) = false := decide_eq_false (by omega)
      have Hc := Lib.hid hc1
      have c0' := (q0.cell (p := ad.add i) (by rw [add_block]; exact Nat.lt_of_lt_of_le hb hBd)).trans c0
      have k0' : ((w.alloc (Obj.cells #[Value.slice (some ad) ks.length c, Value.slice S m d] 26)).alloc (Obj.cells #[.int .i64 0, .int .i64 0, .int .i64 0, .slice none 0 0] 28)).cell? ad1 = some (.int .i64 ks[i][0]) := (q0.cell (by exact Nat.lt_of_lt_of_le hb1 hBd)).trans (by simpa [Addr.add] using k0)
      have k1' : ((w.alloc (Obj.cells #[Value.slice (some ad) ks.length c, Value.slice S m d] 26)).alloc (Obj.cells #[.int .i64 0, .int .i64 0, .int .i64 0, .slice none 0 0] 28)).cell? ⟨ad1.block, ad1.off + 1, none⟩ = some (.int .i64 ks[i][1]) := (q0.cell (by exact Nat.lt_of_lt_of_le hb1 hBd)).trans (by simpa [Addr.add] using k1)
      have k2' : ((w.alloc (Obj.cells #[Value.slice (some ad) ks.length c, Value.slice S m d] 26)).alloc (Obj.cells #[.int .i64 0, .int .i64 0, .int .i64 0, .slice none 0 0] 28)).cell? ⟨ad1.block, ad1.off + 2, none⟩ = some (.int .i64 ks[i][2]) := (q0.cell (by exact Nat.lt_of_lt_of_le hb1 hBd)).trans (by simpa [Addr.add] using k2)
      clear hk hc1 hi c0 k0 k1 k2
      go_enter Try.func36, Try.ntmps36
      go_wp2_with (go_at_call 35; refine (isPlace_any _ _ _).mono ?_; rintro e w' ⟨rfl, rfl⟩)
      go_region
      all_goals go_wp2_with fail
      · rename_i h
        have qW : Q w (((w.alloc (Obj.cells #[Value.slice (some ad) ks.length c, Value.slice S m d] 26)).alloc (Obj.cells #[.int .i64 ks[i][0], .int .i64 ks[i][1], .int .i64 ks[i][2], .slice (some ad1) (ks[i].length - 3) 0] 28)).drew) := (((Q.refl w).alloc _).alloc _).drew
        refine bodyPost_ret (v := .tuple #[.agg #[.int .i64 ks[i][0], .int .i64 ks[i][1], .int .i64 ks[i][2], .slice (some ad1) (ks[i].length - 3) 0], .bool true]) (by simp [results, Try.f36, go_sem]) rfl (lookB_some HT.out (by simp) (fun h0 => ?_) qW)
        rw [List.length_drop] at h0
        omega
      · have qW : Q w (((w.alloc (Obj.cells #[Value.slice (some ad) ks.length c, Value.slice S m d] 26)).alloc (Obj.cells #[.int .i64 ks[i][0], .int .i64 ks[i][1], .int .i64 ks[i][2], .slice (some ⟨ad1.block, ad1.off + 3, none⟩) (ks[i].length - 3) (c1 - 3)] 28)).drew) := (((Q.refl w).alloc _).alloc _).drew
        refine bodyPost_ret (v := .tuple #[.agg #[.int .i64 ks[i][0], .int .i64 ks[i][1], .int .i64 ks[i][2], .slice (some ⟨ad1.block, ad1.off + 3, none⟩) (ks[i].length - 3) (c1 - 3)], .bool true]) (by simp [results, Try.f36, go_sem]) rfl (lookB_some HT.out (by simp) ?_ qW)
        exact drop_intsB Hc.out hb1 hBd qW 3
    · have HT := Lib.hid (termAt_short hlt (Nat.lt_of_not_le h3))
      have d3 : decide (ks[i].length < 3) = true := decide_eq_true (by omega)
      have c0' := (q0.cell (p := ad.add i) (by rw [add_block]; exact Nat.lt_of_lt_of_le hb hBd)).trans c0
      clear hk hi c0
      go_enter Try.func36, Try.ntmps36
      go_wp2_with (go_at_call 35; refine (isPlace_any _ _ _).mono ?_; rintro e w' ⟨rfl, rfl⟩)
      exact bodyPost_ret (v := .tuple #[.agg #[.int .i64 0, .int .i64 0, .int .i64 0, .slice none 0 0], .bool false]) (by simp [results, Try.f36, go_sem]) rfl (lookB_none HT.out q0)

/-- a row with its first k and its last k turned round -/
def rv (l : List Int) (k : Nat) : List Int := (List.range l.length).map fun p => if p < k ∨ l.length - k ≤ p then l[l.length - 1 - p]?.getD 0 else l[p]?.getD 0
theorem rv_length (l : List Int) (k : Nat) : (rv l k).length = l.length := by simp [rv]
theorem rv_at (l : List Int) (k p : Nat) (h : p < l.length) : (rv l k)[p]? = some (if p < k ∨ l.length - k ≤ p then l[l.length - 1 - p]?.getD 0 else l[p]?.getD 0) := by simp [rv, h]
theorem rv_zero (l : List Int) : rv l 0 = l := by
  apply List.ext_getElem?
  intro p
  by_cases h : p < l.length
  · rw [rv_at l 0 p h, if_neg (by omega), List.getElem?_eq_getElem h]; rfl
  · rw [List.getElem?_eq_none (by rw [rv_length]; omega), List.getElem?_eq_none (by omega)]
theorem rv_end (l : List Int) (k : Nat) (h : l.length ≤ 2 * k + 1) : rv l k = l.reverse := by
  apply List.ext_getElem?
  intro p
  by_cases hp : p < l.length
  · rw [rv_at l k p hp, List.getElem?_reverse hp]
    have hq : l.length - 1 - p < l.length := by omega
    split
    · rw [List.getElem?_eq_getElem hq]; rfl
    · have : p = l.length - 1 - p := by omega
      rw [← this, List.getElem?_eq_getElem hp]; rfl
  · rw [List.getElem?_eq_none (by rw [rv_length]; omega), List.getElem?_eq_none (by rw [List.length_reverse]; omega)]
theorem rv_step (l : List Int) (k : Nat) (h : 2 * k + 1 < l.length) : ((rv l k).set k (l[l.length - 1 - k]?.getD 0)).set (l.length - 1 - k) (l[k]?.getD 0) = rv l (k + 1) := by
  apply List.ext_getElem?
  intro p
  by_cases hp : p < l.length
  · rw [rv_at l (k + 1) p hp]
    by_cases e1 : l.length - 1 - k = p
    · rw [e1, List.getElem?_set_self (by rw [List.length_set, rv_length]; exact hp), if_pos (by omega), show l.length - 1 - p = k by omega]
    · rw [List.getElem?_set_ne e1]
      by_cases e2 : k = p
      · rw [e2, List.getElem?_set_self (by rw [rv_length]; exact hp), if_pos (by omega)]
      · rw [List.getElem?_set_ne e2, rv_at l k p hp]
        by_cases e3 : p < k ∨ l.length - k ≤ p
        · rw [if_pos e3, if_pos (by omega)]
        · rw [if_neg e3, if_neg (by omega)]
  · rw [List.getElem?_eq_none (by simp [rv_length]; omega), List.getElem?_eq_none (by rw [rv_length]; omega)]

set_option maxRecDepth 100000 in
set_option maxHeartbeats 1000000 in
theorem reverse_any (g n c : Nat) (l : List Int) (w : World) (hn : n = l.length) (hO : OwnI w g l) (hl : l.length ≤ 100000) :
    Calls Try.prog 37 #[.slice (some ⟨g, 0, none⟩) n c] w fun e w' => (∃ v, e = .returned v) ∧ OwnI w' g l.reverse ∧ w'.heap.size = w.heap.size ∧ Below g w w' ∧ ∀ p : Addr, p.block ≠ g → w'.cell? p = w.cell? p ∧ w'.frozen? p = w.frozen? p := by
  subst hn
  have HO := Lib.hid hO
  clear hO
  have h0 : (0 : Int) ≤ (l.length : Int) := by omega
  go_enter Try.func37, Try.ntmps37
  go_wp2_with fail
  go_loopw [2, 3] (fun i j wr => ∃ k : Nat, 2 * k ≤ l.length ∧ i = .int .i64 k ∧ j = .int .i64 ((l.length : Int) - 1 - (k : Int)) ∧ Hid (OwnI wr g (rv l k)) ∧ Hid (wr.heap.size = w.heap.size) ∧ Below g w wr ∧ Hid (∀ p : Addr, p.block ≠ g → wr.cell? p = w.cell? p ∧ wr.frozen? p = w.frozen? p)) (fun i _ _ => l.length - (intOf i).toNat)
  case atStart => exact ⟨0, by omega, rfl, by simp, by rw [rv_zero]; exact HO, Lib.hid rfl, Below.refl _ _, Lib.hid (fun _ _ => ⟨rfl, rfl⟩)⟩
  case round =>
    obtain ⟨k, hk, rfl, rfl, HR, HZ, hB, HE⟩ := hrel
    by_cases hlt : 2 * k + 1 < l.length
    · obtain ⟨j, hj⟩ : ∃ j : Nat, (l.length : Int) - 1 - (k : Int) = (j : Int) := ⟨l.length - 1 - k, by omega⟩
      have hjn : j = l.length - 1 - k := by omega
      have c1 := HR.out.2 k _ (rv_at l k k (by omega))
      have c2 := HR.out.2 j _ (rv_at l k j (by omega))
      rw [if_neg (by omega)] at c1 c2
      have Hst : Hid (((rv l k).set k (l[j]?.getD 0)).set j (l[k]?.getD 0) = rv l (k + 1)) := by unfold Hid; rw [hjn]; exact rv_step l k hlt
      have Hst2 : Hid (((rv l k).set j (l[k]?.getD 0)).set k (l[j]?.getD 0) = rv l (k + 1)) := by unfold Hid; rw [List.set_comm _ _ (by omega)]; exact Hst.out
      obtain ⟨a1, a2⟩ := c1
      obtain ⟨b1, b2⟩ := c2
      have hkj : k < j := by omega
      have hjl : j < l.length := by omega
      rw [hj]
      obtain ⟨x, hx⟩ : ∃ x, l[k]?.getD 0 = x := ⟨_, rfl⟩
      obtain ⟨y, hy⟩ : ∃ y, l[j]?.getD 0 = y := ⟨_, rfl⟩
      rw [hx] at a1 Hst Hst2
      rw [hy] at b1 Hst Hst2
      have Hj := Lib.hid hj
      have Hl1 : Hid (k < (rv l k).length) := by unfold Hid; rw [rv_length]; omega
      have Hl2 : Hid (j < (rv l k).length) := by unfold Hid; rw [rv_length]; omega
      have kj : (k : Int) < (j : Int) := by omega
      have kl : (k : Int) < (l.length : Int) := by omega
      have jl : (j : Int) < (l.length : Int) := by omega
      clear hx hy hj hjn
      go_wp2_with fail
      go_region
      all_goals go_wp2_with fail
      go_roundw
      case rel =>
        refine ⟨k + 1, by omega, by go_num, by have := Hj.out; congr 1; omega, Lib.hid ?_, Lib.hid ?_, ?_, Lib.hid ?_⟩
        · rw [← Hst.out]; exact (HR.out.set Hl1.out y).set (by rw [List.length_set]; exact Hl2.out) x
        · have := HZ.out; simpa [World.setCell] using this
        · exact ((hB.setCell (p := ⟨g, k, none⟩) (Nat.le_refl _) _).setCell (p := ⟨g, j, none⟩) (Nat.le_refl _) _).drew
        · intro p hp
          have := HE.out p hp
          refine ⟨((World.cell?_setCell_far _ _ _ _ (fun e => hp e.symm)).trans (World.cell?_setCell_far _ _ _ _ (fun e => hp e.symm))).trans this.1, ?_⟩
          show ((wr.setCell _ _).setCell _ _).frozen? p = _
          rw [World.frozen?_setCell, World.frozen?_setCell]
          exact this.2
      case measure => simp [intOf]; omega
    · have HEn := Lib.hid (rv_end l k (by omega))
      go_wp2_with fail
      go_end0
      exact ⟨⟨_, rfl⟩, by rw [← HEn.out]; exact HR.out, HZ.out, hB, HE.out⟩
end Go.Proofs.Ytgnbempkobgeiaa.Tm
