/-
  What the proofs lean on, part 6 of 25.
-/
import Derived.Test.YtdmdcggmgipdbaaGreatDoorPc
import Derived.Test.YtdmdcggmgipdbaaGreatDoorPe
namespace Go.Proofs.YtdmdcggmgipdbaaGreatDoor.Tm
open Go.RowKit Kit Hs

def CloneP (vs : List Value) (w : World) (e : Ending) (w' : World) : Prop :=
  ∃ A c, e = .returned (.slice A vs.length c) ∧ vs.length ≤ c ∧ (0 < vs.length → ∃ g, A = some ⟨g, 0, none⟩ ∧ w.heap.size ≤ g ∧ g < w'.heap.size ∧ ∀ j u, vs[j]? = some u → w'.cell? ⟨g, j, none⟩ = some u ∧ w'.frozen? ⟨g, j, none⟩ = false) ∧ Q w w'

set_option maxRecDepth 100000 in
set_option maxHeartbeats 1000000 in
theorem cloneK_any (A : Option Addr) (n c : Nat) (vs : List Value) (w : World) (hn : n = vs.length) (hr : SrcB w w.heap.size A vs) (h1 : ∀ u ∈ vs, u.oneCell' = true) (hl : vs.length ≤ 100000) :
    Calls Tryz.prog 80 #[.slice A n c] w (CloneP vs w) := by
  subst hn
  have heq := fun u => Lib.run_eql_slice_nil (P := Tryz.prog) u 23 24 A vs.length c 0 0 Tryz.underlying23
  cases A with
  | none =>
    have e : vs = [] := by
      rcases Nat.eq_zero_or_pos vs.length with h | h
      · exact List.eq_nil_of_length_eq_zero h
      · obtain ⟨_, e, _⟩ := hr h; cases e
    subst e
    have heq' : ∀ u, (binOp .eql 23 (.slice none 0 c) (.slice none 0 0)).run Tryz.prog u = .ok (.bool true) u := heq
    clear heq hr hl
    go_enter Tryz.func80, Tryz.ntmps80
    go_wp2_with fail
    go_ret
    exact ⟨none, 0, rfl, Nat.le_refl _, fun h => by simp at h, Q.refl _⟩
  | some ad =>
    have heq' : ∀ u, (binOp .eql 23 (.slice (some ad) vs.length c) (.slice none 0 0)).run Tryz.prog u = .ok (.bool false) u := heq
    obtain ⟨i0, hi, hz0, hz1, hz2⟩ := info_parts sliceInfo
    have Hi := Lib.hid hi
    have Hz0 := Lib.hid hz0
    have Hz1 := Lib.hid hz1
    have Hz2 := Lib.hid hz2
    have HsR := Lib.hid (hr.keep ((Q.refl w).alloc (Obj.cells #[] 24)))
    have Ho := Lib.hid (own_empty (base := w.heap.size) (e := 24) (size := 1) (Nat.le_refl _) (heap_alloc_new w (Obj.cells #[] 24)))
    clear heq hi hz0 hz1 hz2 hr
    go_enter Tryz.func80, Tryz.ntmps80
    go_wp2_with (at_builtin; refine wpList_append_src _ rfl (.tmp 5) (.tmp 6) _ rfl w.heap.size 24 i0 _ 1 24 Tryz.underlying23 Hi.out Hz0.out Hz1.out Hz2.out rfl (by omega) (.slice (some ⟨w.heap.size, 0, none⟩) 0 0) 0 [] rfl Ho.out (some ad) vs.length c vs rfl (by simp) HsR.out.src h1 (by unfold maxLen; omega) (by omega) (by simp) ?_; intro v' w' own' gr' _)
    have q2 : Q w w' := ((Q.refl w).alloc (Obj.cells #[] 24)).grown gr' (by simp) (by simp [Value.ownBlock])
    rw [Nat.zero_add, List.nil_append] at own'
    have Ho' := Lib.hid own'
    clear own' gr'
    go_wp2_with fail
    go_ret
    obtain ⟨A2, c2, rfl, hle, hA2⟩ := own_form Ho'.out
    exact ⟨A2, c2, rfl, hle, hA2, q2⟩

set_option maxRecDepth 100000 in
set_option maxHeartbeats 1000000 in
theorem cloneV_any (A : Option Addr) (n c : Nat) (vs : List Value) (w : World) (hn : n = vs.length) (hr : SrcB w w.heap.size A vs) (h1 : ∀ u ∈ vs, u.oneCell' = true) (hl : vs.length ≤ 100000) :
    Calls Tryz.prog 68 #[.slice A n c] w (CloneP vs w) := by
  subst hn
  have heq := fun u => Lib.run_eql_slice_nil (P := Tryz.prog) u 24 3 A vs.length c 0 0 Tryz.underlying24
  cases A with
  | none =>
    have e : vs = [] := by
      rcases Nat.eq_zero_or_pos vs.length with h | h
      · exact List.eq_nil_of_length_eq_zero h
      · obtain ⟨_, e, _⟩ := hr h; cases e
    subst e
    have heq' : ∀ u, (binOp .eql 24 (.slice none 0 c) (.slice none 0 0)).run Tryz.prog u = .ok (.bool true) u := heq
    clear heq hr hl
    go_enter Tryz.func68, Tryz.ntmps68
    go_wp2_with fail
    go_ret
    exact ⟨none, 0, rfl, Nat.le_refl _, fun h => by simp at h, Q.refl _⟩
  | some ad =>
    have heq' : ∀ u, (binOp .eql 24 (.slice (some ad) vs.length c) (.slice none 0 0)).run Tryz.prog u = .ok (.bool false) u := heq
    obtain ⟨i0, hi, hz0, hz1, hz2⟩ := info_parts intInfo
    have Hi := Lib.hid hi
    have Hz0 := Lib.hid hz0
    have Hz1 := Lib.hid hz1
    have Hz2 := Lib.hid hz2
    have HsR := Lib.hid (hr.keep ((Q.refl w).alloc (Obj.cells #[] 3)))
    have Ho := Lib.hid (own_empty (base := w.heap.size) (e := 3) (size := 1) (Nat.le_refl _) (heap_alloc_new w (Obj.cells #[] 3)))
    clear heq hi hz0 hz1 hz2 hr
    go_enter Tryz.func68, Tryz.ntmps68
    go_wp2_with (at_builtin; refine wpList_append_src _ rfl (.tmp 5) (.tmp 6) _ rfl w.heap.size 3 i0 _ 1 8 Tryz.underlying24 Hi.out Hz0.out Hz1.out Hz2.out rfl (by omega) (.slice (some ⟨w.heap.size, 0, none⟩) 0 0) 0 [] rfl Ho.out (some ad) vs.length c vs rfl (by simp) HsR.out.src h1 (by unfold maxLen; omega) (by omega) (by simp) ?_; intro v' w' own' gr' _)
    have q2 : Q w w' := ((Q.refl w).alloc (Obj.cells #[] 3)).grown gr' (by simp) (by simp [Value.ownBlock])
    rw [Nat.zero_add, List.nil_append] at own'
    have Ho' := Lib.hid own'
    clear own' gr'
    go_wp2_with fail
    go_ret
    obtain ⟨A2, c2, rfl, hle, hA2⟩ := own_form Ho'.out
    exact ⟨A2, c2, rfl, hle, hA2, q2⟩

theorem cellsI_len (sl : List Int) : (cellsI sl).length = sl.length := by simp [cellsI]
def CloneN (sl : List Int) (w : World) (e : Ending) (w' : World) : Prop :=
  ∃ A c, e = .returned (.slice A sl.length c) ∧ sl.length ≤ c ∧ (0 < sl.length → ∃ g, A = some ⟨g, 0, none⟩ ∧ w.heap.size ≤ g ∧ g < w'.heap.size ∧ ∀ j x, sl[j]? = some x → w'.cell? ⟨g, j, none⟩ = some (.int .i64 x)) ∧ Q w w'
theorem cloneN_any (A : Option Addr) (n c : Nat) (sl : List Int) (w : World) (hn : n = sl.length) (hr : SrcB w w.heap.size A (cellsI sl)) (hl : sl.length ≤ 100000) : Calls Tryz.prog 68 #[.slice A n c] w (CloneN sl w) := by
  refine (cloneV_any A n c (cellsI sl) w (by rw [cellsI_len]; exact hn) hr (cellsI_one sl) (by rw [cellsI_len]; exact hl)).mono ?_
  rintro e w' ⟨A', c', rfl, hc, hA, q⟩
  rw [cellsI_len] at hc hA ⊢
  refine ⟨A', c', rfl, hc, fun h0 => ?_, q⟩
  obtain ⟨g, e, h1, h2, h3⟩ := hA h0
  exact ⟨g, e, h1, h2, fun j x hx => (h3 j _ (by unfold cellsI; rw [List.getElem?_map, hx]; rfl)).1⟩
/-- a slice value that reads as these numbers, in a block that is none of two -/
def IntsO (w : World) (g r : Nat) (A : Option Addr) (xs : List Int) : Prop := 0 < xs.length → ∃ ad, A = some ad ∧ ad.block < w.heap.size ∧ ad.block ≠ g ∧ ad.block ≠ r ∧ ∀ i x, xs[i]? = some x → w.cell? (ad.add i) = some (.int .i64 x)
theorem IntsO.q {w w' : World} {g r : Nat} {A : Option Addr} {xs : List Int} (h : IntsO w g r A xs) (q : Q w w') : IntsO w' g r A xs := fun h0 => by
  obtain ⟨ad, e, hb, h1, h2, hc⟩ := h h0
  exact ⟨ad, e, Nat.lt_of_lt_of_le hb q.size, h1, h2, fun i x hx => (q.cell (by rw [add_block]; exact hb)).trans (hc i x hx)⟩
theorem IntsO.set {w : World} {g r : Nat} {A : Option Addr} {xs : List Int} (h : IntsO w g r A xs) {b i : Nat} (hb : b = g ∨ b = r) (v : Value) : IntsO (w.setCell ⟨b, i, none⟩ v) g r A xs := fun h0 => by
  obtain ⟨ad, e, hl, h1, h2, hc⟩ := h h0
  refine ⟨ad, e, by simpa [World.setCell] using hl, h1, h2, fun j x hx => (World.cell?_setCell_far _ _ _ _ ?_).trans (hc j x hx)⟩
  rw [add_block]
  show b ≠ ad.block
  rcases hb with rfl | rfl
  · exact fun e => h1 e.symm
  · exact fun e => h2 e.symm
theorem IntsO.ints {w : World} {g r : Nat} {A : Option Addr} {xs : List Int} (h : IntsO w g r A xs) : Ints w w.heap.size A xs := fun h0 => by
  obtain ⟨ad, e, hl, _, _, hc⟩ := h h0
  exact ⟨ad, e, hl, hc⟩
/-- block g holds slices that read as these keys, none of them in g, or in r; the first k from block lo on -/
def KeysO (w : World) (g r lo k : Nat) (ks : List (List Int)) : Prop :=
  ∀ (i : Nat) (key : List Int), ks[i]? = some key → w.frozen? ⟨g, i, none⟩ = false ∧ ∃ a c, key.length ≤ c ∧ w.cell? ⟨g, i, none⟩ = some (.slice a key.length c) ∧ IntsO w g r a key ∧ (i < k → 0 < key.length → ∀ ad, a = some ad → lo ≤ ad.block)
theorem KeysO.q {w w' : World} {g r lo k : Nat} {ks : List (List Int)} (h : KeysO w g r lo k ks) (hg : g < w.heap.size) (q : Q w w') : KeysO w' g r lo k ks := fun i key hk => by
  obtain ⟨f, a, c, hle, c0, hI, hlo⟩ := h i key hk
  exact ⟨(q.frozen (p := ⟨g, i, none⟩) hg).trans f, a, c, hle, (q.cell (p := ⟨g, i, none⟩) hg).trans c0, hI.q q, hlo⟩
theorem KeysO.step {w : World} {g r lo k : Nat} {ks : List (List Int)} (h : KeysO w g r lo k ks) (hk : k < ks.length) {a : Option Addr} {c : Nat} (hle : ks[k].length ≤ c) (ha : IntsO w g r a ks[k]) (hlo : 0 < ks[k].length → ∀ ad, a = some ad → lo ≤ ad.block) : KeysO (w.setCell ⟨g, k, none⟩ (.slice a ks[k].length c)) g r lo (k + 1) ks := fun i key hi => by
  obtain ⟨f, a', c', hle', c0, hI, hl⟩ := h i key hi
  rw [World.frozen?_setCell]
  by_cases e : k = i
  · subst e
    rw [List.getElem?_eq_getElem hk] at hi
    obtain rfl : ks[k] = key := by simpa using hi
    exact ⟨f, a, c, hle, setCell_eq c0, ha.set (.inl rfl) _, fun _ => hlo⟩
  · exact ⟨f, a', c', hle', setCell_ne e c0, hI.set (.inl rfl) _, fun h1 => hl (by omega)⟩
theorem KeysO.setR {w : World} {g r lo k : Nat} {ks : List (List Int)} (h : KeysO w g r lo k ks) (hne : r ≠ g) (j : Nat) (v : Value) : KeysO (w.setCell ⟨r, j, none⟩ v) g r lo k ks := fun i key hi => by
  obtain ⟨f, a', c', hle', c0, hI, hl⟩ := h i key hi
  rw [World.frozen?_setCell]
  exact ⟨f, a', c', hle', (World.cell?_setCell_far _ _ _ _ hne).trans c0, hI.set (.inr rfl) _, hl⟩
theorem IntsO.world {w W : World} {g r lo : Nat} {A : Option Addr} {xs : List Int} (h : IntsO w g r A xs) (hlo : 0 < xs.length → ∀ ad, A = some ad → lo ≤ ad.block) (hW : ∀ p : Addr, lo ≤ p.block → p.block < w.heap.size → W.cell? p = w.cell? p) : Ints W w.heap.size A xs := fun h0 => by
  obtain ⟨ad, e, hl, _, _, hc⟩ := h h0
  exact ⟨ad, e, hl, fun i x hx => by rw [hW _ (by rw [add_block]; exact hlo h0 ad e) (by rw [add_block]; exact hl)]; exact hc i x hx⟩
theorem KeysO.keys {w W : World} {g r lo : Nat} {ks : List (List Int)} (h : KeysO w g r lo ks.length ks) (hg : g < w.heap.size) (hl : lo ≤ g) (hW : ∀ p : Addr, lo ≤ p.block → p.block < w.heap.size → W.cell? p = w.cell? p) : Keys W w.heap.size (some ⟨g, 0, none⟩) ks := fun _ => by
  refine ⟨_, rfl, hg, fun i key hk => ?_⟩
  obtain ⟨_, a, c, hle, c0, hI, hlo⟩ := h i key hk
  exact ⟨a, c, hle, by rw [add_zero_head, hW _ hl hg]; exact c0, hI.world (hlo (List.getElem?_eq_some_iff.1 hk).1) hW⟩

/-- the copy's box, what it holds, and the result's cells -/
structure Cp (w W : World) (B : Nat) (A : Option Addr) (c : Nat) (S : Option Addr) (d : Nat) (ks : List (List Int)) (sl : List Int) (k : Nat) : Prop where
  b0 : W.cell? ⟨B, 0, none⟩ = some (.slice A ks.length c)
  b1 : W.cell? ⟨B, 1, none⟩ = some (.slice S sl.length d)
  lt : B < W.heap.size
  far : w.heap.size + 1 < B
  r0 : ∃ v, W.cell? ⟨w.heap.size + 1, 0, none⟩ = some v
  r1 : ∃ v, W.cell? ⟨w.heap.size + 1, 1, none⟩ = some v
  f0 : W.frozen? ⟨w.heap.size + 1, 0, none⟩ = false
  f1 : W.frozen? ⟨w.heap.size + 1, 1, none⟩ = false
  keys : 0 < ks.length → ∃ g, A = some ⟨g, 0, none⟩ ∧ g < W.heap.size ∧ w.heap.size + 1 < g ∧ g ≠ B ∧ KeysO W g (w.heap.size + 1) w.heap.size k ks ∧ IntsO W g (w.heap.size + 1) S sl
  slots : IntsO W (w.heap.size + 1) (w.heap.size + 1) S sl
  cap : ks.length ≤ c
  lo : 0 < sl.length → ∀ ad, S = some ad → w.heap.size ≤ ad.block
  q : Q w W
theorem Cp.more {w W W' : World} {B : Nat} {A : Option Addr} {c : Nat} {S : Option Addr} {d k : Nat} {ks : List (List Int)} {sl : List Int} (h : Cp w W B A c S d ks sl k) (q : Q W W') : Cp w W' B A c S d ks sl k := by
  have hl : w.heap.size + 1 < W.heap.size := by have := h.lt; have := h.far; omega
  refine ⟨(q.cell (p := ⟨B, 0, none⟩) h.lt).trans h.b0, (q.cell (p := ⟨B, 1, none⟩) h.lt).trans h.b1, Nat.lt_of_lt_of_le h.lt q.size, h.far, ?_, ?_,
    (q.frozen (p := ⟨w.heap.size + 1, 0, none⟩) hl).trans h.f0, (q.frozen (p := ⟨w.heap.size + 1, 1, none⟩) hl).trans h.f1, fun h0 => ?_, h.slots.q q, h.cap, h.lo, h.q.trans q⟩
  · obtain ⟨v, e⟩ := h.r0; exact ⟨v, (q.cell (p := ⟨w.heap.size + 1, 0, none⟩) hl).trans e⟩
  · obtain ⟨v, e⟩ := h.r1; exact ⟨v, (q.cell (p := ⟨w.heap.size + 1, 1, none⟩) hl).trans e⟩
  · obtain ⟨g, e, hg, h1, h2, hK, hI⟩ := h.keys h0
    exact ⟨g, e, Nat.lt_of_lt_of_le hg q.size, h1, h2, hK.q hg q, hI.q q⟩
theorem Cp.set {w W : World} {B : Nat} {c : Nat} {S : Option Addr} {d g k : Nat} {ks : List (List Int)} {sl : List Int} {a : Option Addr} {c' : Nat} (h : Cp w W B (some ⟨g, 0, none⟩) c S d ks sl k) (hk : k < ks.length) (hle : ks[k].length ≤ c') (ha : IntsO W g (w.heap.size + 1) a ks[k]) (hlo : 0 < ks[k].length → ∀ ad, a = some ad → w.heap.size ≤ ad.block) :
    Cp w (W.setCell ⟨g, k, none⟩ (.slice a ks[k].length c')) B (some ⟨g, 0, none⟩) c S d ks sl (k + 1) := by
  obtain ⟨g', e, hg, h1, h2, hK, hI⟩ := h.keys (by omega)
  injection e with e
  injection e with e
  subst e
  have hr : g ≠ w.heap.size + 1 := by omega
  refine ⟨(World.cell?_setCell_far _ _ _ _ h2).trans h.b0, (World.cell?_setCell_far _ _ _ _ h2).trans h.b1, by have := h.lt; simpa [World.setCell] using this, h.far, ?_, ?_, by rw [World.frozen?_setCell]; exact h.f0, by rw [World.frozen?_setCell]; exact h.f1, fun _ => ⟨g, rfl, by simpa [World.setCell] using hg, h1, h2, hK.step hk hle ha hlo, hI.set (.inl rfl) _⟩, fun h0 => ?_, h.cap, h.lo, h.q.setCell (p := ⟨g, k, none⟩) (by show _ ≤ g; omega) _⟩
  · obtain ⟨v, e⟩ := h.r0; exact ⟨v, (World.cell?_setCell_far _ _ _ _ hr).trans e⟩
  · obtain ⟨v, e⟩ := h.r1; exact ⟨v, (World.cell?_setCell_far _ _ _ _ hr).trans e⟩
  · obtain ⟨ad, e, hl, n1, n2, hc⟩ := hI.set (b := g) (i := k) (.inl rfl) (.slice a ks[k].length c') h0
    exact ⟨ad, e, hl, n2, n2, hc⟩
theorem Keys.srcO {w w' : World} {ks : List (List Int)} {vs : List Value} {g r : Nat} (hv : ∀ (i : Nat) (k : List Int), ks[i]? = some k → ∃ a c, k.length ≤ c ∧ vs[i]? = some (Value.slice a k.length c) ∧ Ints w w.heap.size a k) (q : Q w w') (hg : w.heap.size ≤ g) (hr : w.heap.size ≤ r)
    (hc : ∀ j u, vs[j]? = some u → w'.cell? ⟨g, j, none⟩ = some u ∧ w'.frozen? ⟨g, j, none⟩ = false) (lo : Nat) : KeysO w' g r lo 0 ks := fun i key hk => by
  obtain ⟨a, c, hle, e, hI⟩ := hv i key hk
  obtain ⟨h1, h2⟩ := hc i _ e
  refine ⟨h2, a, c, hle, h1, fun h0 => ?_, fun h => absurd h (Nat.not_lt_zero _)⟩
  obtain ⟨ad, e', hb, hcc⟩ := hI h0
  exact ⟨ad, e', Nat.lt_of_lt_of_le hb q.size, by omega, by omega, fun j x hx => (q.cell (by rw [add_block]; exact hb)).trans (hcc j x hx)⟩

/-- a box of a table, just laid -/
structure BoxF (W : World) (B : Nat) : Prop where
  c0 : W.cell? ⟨B, 0, none⟩ = some (.slice none 0 0)
  c1 : W.cell? ⟨B, 1, none⟩ = some (.slice none 0 0)
  f0 : W.frozen? ⟨B, 0, none⟩ = false
  f1 : W.frozen? ⟨B, 1, none⟩ = false
  lt : B < W.heap.size
theorem BoxF.new (w : World) (t : TypeId) : BoxF (w.alloc (.cells #[.slice none 0 0, .slice none 0 0] t)) w.heap.size := ⟨by simp, by simp, by simp, by simp, by simp⟩
theorem BoxF.q {W W' : World} {B : Nat} (h : BoxF W B) (q : Q W W') : BoxF W' B :=
  ⟨(q.cell (p := ⟨B, 0, none⟩) h.lt).trans h.c0, (q.cell (p := ⟨B, 1, none⟩) h.lt).trans h.c1, (q.frozen (p := ⟨B, 0, none⟩) h.lt).trans h.f0, (q.frozen (p := ⟨B, 1, none⟩) h.lt).trans h.f1, Nat.lt_of_lt_of_le h.lt q.size⟩
theorem cp_close {w W0 w1 w2 W : World} {B lo1 lo2 n m : Nat} {A1 A2 : Option Addr} {c d : Nat} {a b x y : Value} {vs : List Value} {ks : List (List Int)} {sl : List Int} (hT : TwoB w W0 a b x y) (p1 : Q W0 w1) (q12 : Q w1 w2) (hcap : vs.length ≤ c) (hn : n = ks.length) (hm : m = sl.length) (hvl : vs.length = ks.length)
    (hvv : ∀ (i : Nat) (k : List Int), ks[i]? = some k → ∃ a c, k.length ≤ c ∧ vs[i]? = some (Value.slice a k.length c) ∧ Ints w w.heap.size a k)
    (hA1 : 0 < vs.length → ∃ g, A1 = some ⟨g, 0, none⟩ ∧ lo1 ≤ g ∧ g < w1.heap.size ∧ ∀ j u, vs[j]? = some u → w1.cell? ⟨g, j, none⟩ = some u ∧ w1.frozen? ⟨g, j, none⟩ = false)
    (hA2 : 0 < (cellsI sl).length → ∃ g, A2 = some ⟨g, 0, none⟩ ∧ lo2 ≤ g ∧ g < w2.heap.size ∧ ∀ j u, (cellsI sl)[j]? = some u → w2.cell? ⟨g, j, none⟩ = some u ∧ w2.frozen? ⟨g, j, none⟩ = false)
    (l1 : W0.heap.size ≤ lo1) (l2 : w1.heap.size ≤ lo2) (B1 : B < lo1 ∨ w1.heap.size ≤ B) (B2 : B < lo2 ∨ w2.heap.size ≤ B) (hB0 : W0.heap.size ≤ B)
    (b0 : W.cell? ⟨B, 0, none⟩ = some (.slice A1 n c)) (b1 : W.cell? ⟨B, 1, none⟩ = some (.slice A2 m d)) (lt : B < W.heap.size) (hz : w2.heap.size ≤ W.heap.size)
    (hW : ∀ p : Addr, p.block ≠ B → p.block < w2.heap.size → W.cell? p = w2.cell? p ∧ W.frozen? p = w2.frozen? p) (qW : Q w W) : Cp w W B A1 c A2 d ks sl 0 := by
  subst hn hm
  have hl0 := hT.lt
  have s1 := p1.size
  have s2 := q12.size
  have h2 := hT.q (p1.trans q12)
  have hr : w.heap.size + 1 ≠ B := by omega
  have hr2 : w.heap.size + 1 < w2.heap.size := by omega
  have slots : 0 < sl.length → ∃ g, A2 = some ⟨g, 0, none⟩ ∧ lo2 ≤ g ∧ g < w2.heap.size ∧ g ≠ B ∧ ∀ j x, sl[j]? = some x → W.cell? ⟨g, j, none⟩ = some (.int .i64 x) := fun h0 => by
    obtain ⟨g, e, hg, hg2, hc⟩ := hA2 (by simpa [cellsI] using h0)
    refine ⟨g, e, hg, hg2, by omega, fun j x hx => ?_⟩
    rw [(hW ⟨g, j, none⟩ (by show g ≠ B; omega) hg2).1]
    exact (hc j _ (by unfold cellsI; rw [List.getElem?_map, hx]; rfl)).1
  have slotsO : ∀ k, k < lo2 → IntsO W k (w.heap.size + 1) A2 sl := fun k hk h0 => by
    obtain ⟨g, e, hg, hg2, hgB, hc⟩ := slots h0
    exact ⟨_, e, by show g < _; omega, by show g ≠ k; omega, by show g ≠ w.heap.size + 1; omega, fun i x hx => by rw [add_zero_head]; exact hc i x hx⟩
  refine ⟨b0, b1, lt, by omega, ⟨_, (hW ⟨w.heap.size + 1, 0, none⟩ hr hr2).1.trans h2.r0⟩, ⟨_, (hW ⟨w.heap.size + 1, 1, none⟩ hr hr2).1.trans h2.r1⟩, (hW ⟨w.heap.size + 1, 0, none⟩ hr hr2).2.trans h2.f0, (hW ⟨w.heap.size + 1, 1, none⟩ hr hr2).2.trans h2.f1, fun h0 => ?_, slotsO _ (by omega), by omega, (fun h0 ad e => by obtain ⟨g, e', hg, _⟩ := slots h0; rw [e] at e'; injection e' with e'; subst e'; show _ ≤ g; omega), qW⟩
  obtain ⟨g, e, hg, hg1, hc⟩ := hA1 (by omega)
  have hgB : g ≠ B := by omega
  refine ⟨g, e, by omega, by omega, hgB, ?_, slotsO g (by omega)⟩
  refine Keys.srcO (w := w) hvv qW (by omega) (by omega) (fun j u hu => ?_) _
  obtain ⟨h3, h4⟩ := hc j u hu
  have hx := hW ⟨g, j, none⟩ hgB (by show g < _; omega)
  exact ⟨hx.1.trans ((q12.cell (p := ⟨g, j, none⟩) hg1).trans h3), hx.2.trans ((q12.frozen (p := ⟨g, j, none⟩) hg1).trans h4)⟩

theorem Cp.cellAt {w W : World} {B : Nat} {c : Nat} {S : Option Addr} {d g k : Nat} {ks : List (List Int)} {sl : List Int} {j : Nat} (h : Cp w W B (some ⟨g, 0, none⟩) c S d ks sl j) (hk : k < ks.length) : ∃ v, W.cell? ⟨g, k, none⟩ = some v ∧ W.frozen? ⟨g, k, none⟩ = false := by
  obtain ⟨g', e, _, _, _, hK, _⟩ := h.keys (by omega)
  injection e with e
  injection e with e
  subst e
  obtain ⟨f, a, c, _, c0, _, _⟩ := hK k ks[k] (List.getElem?_eq_getElem hk)
  exact ⟨_, c0, f⟩
def CopyOfPost (ks : List (List Int)) (sl : List Int) (w : World) (e : Ending) (w' : World) : Prop :=
  ∃ A c S d, e = .returned (.agg #[.slice A ks.length c, .slice S sl.length d]) ∧ (∀ W : World, (∀ p : Addr, w.heap.size ≤ p.block → p.block < w'.heap.size → W.cell? p = w'.cell? p) → Keys W w'.heap.size A ks ∧ Ints W w'.heap.size S sl) ∧ Q w w' ∧ ks.length ≤ c
def CpR (w : World) (ks : List (List Int)) (sl : List Int) (v : Value) (W : World) : Prop := ∃ B A c S d, v = .pointer (some ⟨B, 0, none⟩) ∧ Cp w W B A c S d ks sl 0

set_option maxRecDepth 100000 in
set_option maxHeartbeats 2000000 in
theorem copyOf_any (A S : Option Addr) (n c m d : Nat) (ks : List (List Int)) (sl : List Int) (w : World) (hn : n = ks.length) (hm : m = sl.length) (hk : Keys w w.heap.size A ks) (hS : Ints w w.heap.size S sl) (hl : ks.length ≤ 5000) (hs : ∀ k ∈ ks, k.length ≤ 100000) (hsl : sl.length ≤ 100000) :
    Calls Tryz.prog 100 #[.agg #[.slice A n c, .slice S m d]] w (CopyOfPost ks sl w) := by
  subst hn
  subst hm
  have q0 := ((Q.refl w).alloc (Obj.cells #[Value.slice A ks.length c, Value.slice S sl.length d] 26)).alloc (Obj.cells #[Value.slice none 0 0, Value.slice none 0 0] 26)
  obtain ⟨vs, hvl, hvs, hvv⟩ := hk.vals
  have Hv1 := Lib.hid (vals_one hvl hvv)
  have Hvl := Lib.hid hvl
  have HVS := Lib.hid ((hvs.keep q0).more q0.size)
  have Hvv := Lib.hid hvv
  have HSS := Lib.hid ((hS.srcB.keep q0).more q0.size)
  have HSw := Lib.hid hS
  have HB := Lib.hid (TwoB.new w (Value.slice A ks.length c) (Value.slice S sl.length d) (Value.slice none 0 0) (Value.slice none 0 0) 26 26)
  have HsM := Lib.hid hs
  clear hk hS hs hvl hvs hvv
  go_enter Tryz.func100, Tryz.ntmps100
  go_upto_region 1 with fail
  generalize (w.alloc (Obj.cells #[Value.slice A ks.length c, Value.slice S sl.length d] 26)).alloc (Obj.cells #[Value.slice none 0 0, Value.slice none 0 0] 26) = W0 at *
  go_cut [3] (CpR w ks sl)
  case first =>
    have c0 := HB.out.c0
    have c1 := HB.out.c1
    have hlt := HB.out.lt
    have hlt0 : w.heap.size < W0.heap.size := by omega
    go_region_held3 (fun w' => w'.cell? ⟨w.heap.size, 0, none⟩ = some (.slice A ks.length c) ∧ w'.cell? ⟨w.heap.size, 1, none⟩ = some (.slice S sl.length d))
      (first
        | go_keep
        | exact ⟨(p2.cell (p := ⟨w.heap.size, 0, none⟩) hlt0).trans c0, (p2.cell (p := ⟨w.heap.size, 1, none⟩) hlt0).trans c1⟩
        | exact ⟨((p2.alloc _).cell (p := ⟨w.heap.size, 0, none⟩) hlt0).trans c0, ((p2.alloc _).cell (p := ⟨w.heap.size, 1, none⟩) hlt0).trans c1⟩
        | exact ⟨(p1.cell (p := ⟨w.heap.size, 0, none⟩) hlt0).trans c0, (p1.cell (p := ⟨w.heap.size, 1, none⟩) hlt0).trans c1⟩
        | exact ⟨((p1.alloc _).cell (p := ⟨w.heap.size, 0, none⟩) hlt0).trans c0, ((p1.alloc _).cell (p := ⟨w.heap.size, 1, none⟩) hlt0).trans c1⟩
        | exact ⟨(((p2.setCell (p := ⟨W0.heap.size, 0, none⟩) (Nat.le_refl _) _).setCell (p := ⟨W0.heap.size, 1, none⟩) (Nat.le_refl _) _).cell (p := ⟨w.heap.size, 0, none⟩) hlt0).trans c0, (((p2.setCell (p := ⟨W0.heap.size, 0, none⟩) (Nat.le_refl _) _).setCell (p := ⟨W0.heap.size, 1, none⟩) (Nat.le_refl _) _).cell (p := ⟨w.heap.size, 1, none⟩) hlt0).trans c1⟩
        | exact ⟨(((p2.setCell (p := ⟨w1.heap.size, 0, none⟩) p1.size _).setCell (p := ⟨w1.heap.size, 1, none⟩) p1.size _).cell (p := ⟨w.heap.size, 0, none⟩) hlt0).trans c0, (((p2.setCell (p := ⟨w1.heap.size, 0, none⟩) p1.size _).setCell (p := ⟨w1.heap.size, 1, none⟩) p1.size _).cell (p := ⟨w.heap.size, 1, none⟩) hlt0).trans c1⟩)
      (first
        | (go_at_call 80; refine (cloneK_any _ _ _ vs _ Hvl.out.symm (by first | exact HVS.out | exact (HVS.out.keep ((Q.refl W0).alloc _)).more (by simp)) Hv1.out (by have := Hvl.out; omega)).mono ?_; rintro e w1 ⟨A1, c1', rfl, hc1, hA1, q1⟩; have HA1 := Lib.hid hA1; clear hA1; have p1 : Q W0 w1 := (by first | exact (Q.refl W0).drew.trans q1 | exact ((Q.refl W0).drew.alloc _).trans q1); (first | have bx : BoxF w1 W0.heap.size := (BoxF.new W0.drew 26).q q1 | skip))
        | (go_at_call 68; refine (cloneV_any _ _ _ (cellsI sl) _ (by simp [cellsI]) (by first | exact (HSS.out.keep p1).more p1.size | exact (HSS.out.keep (p1.alloc _)).more (p1.alloc _).size) (cellsI_one sl) (by simpa [cellsI] using hsl)).mono ?_; rintro e w2 ⟨A2, c2', rfl, hc2, hA2, q2⟩; have HA2 := Lib.hid hA2; clear hA2; have p2 : Q W0 w2 := (by first | exact p1.trans q2 | exact (p1.alloc _).trans q2); (first | (have bx2 := bx.q q2; have y0 := bx2.c0; have y1 := bx2.c1; have z0 := bx2.f0; have z1 := bx2.f1) | (have bx2 := (BoxF.new w1 26).q q2; have y0 := bx2.c0; have y1 := bx2.c1; have z0 := bx2.f0; have z1 := bx2.f1) | skip)))
    · go_wp2_with fail
      go_meet
      refine ⟨w2.heap.size, A1, c1', A2, c2', rfl, cp_close (W0 := W0) (w1 := w1) (w2 := w2) HB.out p1 q2 hc1 Hvl.out (cellsI_len sl) Hvl.out Hvv.out HA1.out HA2.out (Nat.le_refl _) (Nat.le_refl _) (.inr q2.size) (.inr (Nat.le_refl _)) p2.size (by simp) (by simp) (by simp) (by simp) (fun p _ hp => ⟨((Q.refl w2).alloc _).cell hp, ((Q.refl w2).alloc _).frozen hp⟩) ((q0.trans p2).alloc _)⟩
    · go_wp2_with fail
      go_meet
      have q12 : Q w1 w2 := ((Q.refl w1).alloc _).trans q2
      refine ⟨w1.heap.size, A1, c1', A2, c2', rfl, cp_close (W0 := W0) (w1 := w1) (w2 := w2) HB.out p1 q12 hc1 Hvl.out (cellsI_len sl) Hvl.out Hvv.out HA1.out HA2.out (Nat.le_refl _) (by simp) (.inr (Nat.le_refl _)) (.inl (by simp)) p1.size (setCell_ne (by omega) (setCell_eq y0)) (setCell_eq (setCell_ne (by omega) y1)) (by have := bx2.lt; simpa [World.setCell] using this) (by simp [World.setCell]) (fun p hp _ => ⟨set_two_other _ _ _ _ _ hp, by simp only [World.frozen?_setCell]⟩) (((q0.trans p2).setCell (p := ⟨w1.heap.size, 0, none⟩) (q0.trans p1).size _).setCell (p := ⟨w1.heap.size, 1, none⟩) (q0.trans p1).size _)⟩
    · go_wp2_with fail
      go_meet
      refine ⟨W0.heap.size, A1, c1', A2, c2', rfl, cp_close (W0 := W0) (w1 := w1) (w2 := w2) HB.out p1 q2 hc1 Hvl.out (cellsI_len sl) Hvl.out Hvv.out HA1.out HA2.out (by show _ ≤ (W0.alloc _).heap.size; simp) (Nat.le_refl _) (.inl (by show _ < (W0.alloc _).heap.size; simp)) (.inl bx.lt) (Nat.le_refl _) (setCell_ne (by omega) (setCell_eq y0)) (setCell_eq (setCell_ne (by omega) y1)) (by have := bx2.lt; simpa [World.setCell] using this) (by simp [World.setCell]) (fun p hp _ => ⟨set_two_other _ _ _ _ _ hp, by simp only [World.frozen?_setCell]⟩) (((q0.trans p2).setCell (p := ⟨W0.heap.size, 0, none⟩) q0.size _).setCell (p := ⟨W0.heap.size, 1, none⟩) q0.size _)⟩
  case rest =>
    obtain ⟨B, A1, c1, S1, d1, rfl, hC⟩ := hcut
    have HC := Lib.hid hC
    have b0 := hC.b0
    clear hC HB HVS HSS HSw Hv1 Hvl Hvv
    go_wp2_with fail
    go_loopw [4, 5, 16] (fun _ _ i wr => ∃ k : Nat, k ≤ ks.length ∧ i = .int .i64 k ∧ Hid (Cp w wr B A1 c1 S1 d1 ks sl k)) (fun _ _ i _ => ks.length - (intOf i).toNat)
    case atStart => exact ⟨0, Nat.zero_le _, rfl, HC⟩
    case round =>
      clear b0 HC
      obtain ⟨k, hkl, rfl, HC⟩ := hrel
      have b0 := HC.out.b0
      have hBl := HC.out.lt
      by_cases hlt : k < ks.length
      · obtain ⟨g, rfl, hg, hgr, hgB, hK, _⟩ := HC.out.keys (by omega)
        obtain ⟨_, a, ca, hle, c0, hI, _⟩ := hK k ks[k] (List.getElem?_eq_getElem hlt)
        have HI := Lib.hid hI.ints.srcB
        have Hlk := Lib.hid (HsM.out _ (List.getElem_mem hlt))
        clear hI hK
        go_wp2_with fail
        go_region_held3 (fun w' => w'.cell? ⟨B, 0, none⟩ = some (.slice (some ⟨g, 0, none⟩) ks.length c1))
          (first
            | go_keep
            | exact (p3.cell (p := ⟨B, 0, none⟩) hBl).trans b0
            | exact (World.cell?_setCell_far _ _ _ _ hgB).trans ((p3.cell (p := ⟨B, 0, none⟩) hBl).trans b0))
          (first
            | (go_at_call 68; refine (cloneN_any _ _ _ ks[k] _ rfl (by exact HI.out) Hlk.out).mono ?_; rintro e w3 ⟨A3, c3, rfl, hc3, hA3, q3⟩; have HA3 := Lib.hid hA3; clear hA3; have p3 : Q wr w3 := (Q.refl wr).drew.trans q3; have HC3 := Lib.hid (HC.out.more p3); obtain ⟨v3, k3, f3⟩ := Cp.cellAt HC3.out hlt))
        go_wp2_with fail
        go_roundw
        case rel =>
          refine ⟨k + 1, by omega, by go_num, Lib.hid ?_⟩
          have hqw := HC.out.q.size
          refine HC3.out.set hlt hc3 (fun h0 => ?_) (fun h0 ad e => by obtain ⟨g3, e3, hg3, _⟩ := HA3.out h0; have hgl : wr.heap.size ≤ g3 := hg3; rw [e] at e3; injection e3 with e3; subst e3; show _ ≤ g3; omega)
          obtain ⟨g3, e3, hg3, hl3, hcc⟩ := HA3.out h0
          have hgl : wr.heap.size ≤ g3 := hg3
          exact ⟨_, e3, hl3, by show g3 ≠ g; omega, by show g3 ≠ _; omega, fun i x hx => by rw [add_zero_head]; exact hcc i x hx⟩
        case measure => simp [intOf]; omega
      · obtain ⟨v0, r0⟩ := HC.out.r0
        obtain ⟨v1, r1⟩ := HC.out.r1
        have b1 := HC.out.b1
        have f0 := HC.out.f0
        have f1 := HC.out.f1
        have hfar := HC.out.far
        go_wp2_with fail
        have y0 := setCell_ne (W := wr.setCell ⟨w.heap.size + 1, 0, none⟩ (.slice A1 ks.length c1)) (B := w.heap.size + 1) (i := 1) (j := 0) (v := .slice S1 sl.length d1) (by omega) (setCell_eq r0)
        have y1 := setCell_eq (W := wr.setCell ⟨w.heap.size + 1, 0, none⟩ (.slice A1 ks.length c1)) (B := w.heap.size + 1) (i := 1) (v := .slice S1 sl.length d1) (setCell_ne (by omega) r1)
        have hz : ((wr.setCell ⟨w.heap.size + 1, 0, none⟩ (.slice A1 ks.length c1)).setCell ⟨w.heap.size + 1, 1, none⟩ (.slice S1 sl.length d1)).heap.size = wr.heap.size := by simp [World.setCell]
        refine bodyPost_ret (v := .agg #[.slice A1 ks.length c1, .slice S1 sl.length d1]) (by simp [results, Tryz.f100, go_sem, y0, y1]) rfl ⟨A1, c1, S1, d1, rfl, fun W hW => ⟨fun h0 => ?_, ?_⟩, (HC.out.q.setCell (p := ⟨w.heap.size + 1, 0, none⟩) (by show _ ≤ w.heap.size + 1; omega) _).setCell (p := ⟨w.heap.size + 1, 1, none⟩) (by show _ ≤ w.heap.size + 1; omega) _, HC.out.cap⟩
        · obtain ⟨g, rfl, hg, hgr, hgB, hK, _⟩ := HC.out.keys h0
          obtain rfl : k = ks.length := by omega
          exact ((hK.setR (by omega) 0 _).setR (by omega) 1 _).keys (by rw [hz]; exact hg) (by omega) hW h0
        · exact ((HC.out.slots.set (.inr rfl) _).set (.inr rfl) _).world HC.out.lo hW
end Go.Proofs.YtdmdcggmgipdbaaGreatDoor.Tm

namespace Go.Proofs.YtdmdcggmgipdbaaGreatDoor.Hs
open Go.RowKit Kit

def PutPostF (ks : List (List Int)) (sl : List Int) (place : Int) (new : Bool) (w : World) (e : Ending) (w' : World) : Prop :=
  ∃ A c S d, e = .returned (.tuple #[.agg #[.slice A ks.length c, .slice S sl.length d], .int .i64 place, .bool new]) ∧
    (∀ W : World, (∀ p : Addr, w.heap.size ≤ p.block → p.block < w'.heap.size → W.cell? p = w'.cell? p) → Keys W w'.heap.size A ks ∧ Ints W w'.heap.size S sl) ∧ Q w w' ∧ ks.length ≤ c
theorem clone_intsF {w w' W : World} {S : Option Addr} {sl : List Int} {lo B : Nat} (h : 0 < sl.length → ∃ g, S = some ⟨g, 0, none⟩ ∧ lo ≤ g ∧ OwnI w g sl) (q : Q w w') (hB : w'.heap.size = B) (hW : ∀ p : Addr, lo ≤ p.block → p.block < B → W.cell? p = w'.cell? p) : Ints W B S sl := fun h0 => by
  obtain ⟨g, e, hg, ho⟩ := h h0
  have ho' := ho.q q
  refine ⟨_, e, by rw [← hB]; exact ho'.1, fun i x hx => ?_⟩
  rw [add_zero_head, hW _ hg (by rw [← hB]; exact ho'.1)]
  exact (ho'.2 i x hx).1
theorem putF_close {w w3 w5 w7 Wf : World} {A : Option Addr} {c g d n m : Nat} {ks : List (List Int)} {sl : List Int} {u v : Value} (hn : n = ks.length) (hm : m = sl.length) (hu : u = .slice A n c) (hv : v = .slice (some ⟨g, 0, none⟩) m d)
    (hW : Wf = ((w7.setCell ⟨w.heap.size + 1, 0, none⟩ u).setCell ⟨w.heap.size + 1, 1, none⟩ v).drew) (hlt : w.heap.size + 1 < w3.heap.size) (hg : w.heap.size + 1 < g) (hO : OwnI w7 g sl) (h57 : ∀ p : Addr, w3.heap.size < p.block + 1 → p.block < w5.heap.size → w7.cell? p = w5.cell? p) (hz : w5.heap.size ≤ w7.heap.size)
    (hK : ∀ W : World, (∀ p : Addr, w3.heap.size ≤ p.block → p.block < w5.heap.size → W.cell? p = w5.cell? p) → Keys W w5.heap.size A ks) (q : Q w w7) (place : Int) (hcp : ks.length ≤ c) :
    PutPostF ks sl place true w (.returned (.tuple #[.agg #[u, v], .int .i64 place, .bool true])) Wf := by
  subst hW hu hv hn hm
  have hs : (((w7.setCell ⟨w.heap.size + 1, 0, none⟩ (.slice A ks.length c)).setCell ⟨w.heap.size + 1, 1, none⟩ (.slice (some ⟨g, 0, none⟩) sl.length d)).drew).heap.size = w7.heap.size := by show ((w7.setCell _ _).setCell _ _).heap.size = _; simp [World.setCell]
  have ho : ∀ p : Addr, p.block ≠ w.heap.size + 1 → (((w7.setCell ⟨w.heap.size + 1, 0, none⟩ (.slice A ks.length c)).setCell ⟨w.heap.size + 1, 1, none⟩ (.slice (some ⟨g, 0, none⟩) sl.length d)).drew).cell? p = w7.cell? p := fun p hp => by
    show ((w7.setCell _ _).setCell _ _).cell? p = _
    exact (World.cell?_setCell_far _ _ _ _ (fun e => hp e.symm)).trans (World.cell?_setCell_far _ _ _ _ (fun e => hp e.symm))
  refine ⟨A, c, _, d, rfl, fun W hW => ?_, ?_, hcp⟩
  · rw [hs] at hW ⊢
    refine ⟨(hK W fun p h1 h2 => (hW p (by omega) (by omega)).trans ((ho p (by omega)).trans (h57 p (by omega) h2))).more hz, fun _ => ⟨_, rfl, hO.1, fun i x hx => ?_⟩⟩
    rw [add_zero_head, hW _ (by show w.heap.size ≤ g; omega) hO.1, ho _ (by show g ≠ _; omega)]
    exact (hO.2 i x hx).1
  · exact ((q.setCell (p := ⟨w.heap.size + 1, 0, none⟩) (by show _ ≤ w.heap.size + 1; omega) _).setCell (p := ⟨w.heap.size + 1, 1, none⟩) (by show _ ≤ w.heap.size + 1; omega) _).drew

set_option maxRecDepth 100000 in
set_option maxHeartbeats 1000000 in
theorem putF_old (A S E : Option Addr) (c d ce : Nat) (ks : List (List Int)) (sl key : List Int) (w : World) (s p : Int) (hk : Keys w w.heap.size A ks) (hS : Ints w w.heap.size S sl) (he : Ints w w.heap.size E key)
    (hs : ∀ k ∈ ks, k.length ≤ maxLen) (hkl : key.length ≤ 5000) (hsl : sl.length ≤ 100000) (hl : ks.length ≤ 5000) (ht : ks.flatten.length ≤ 50000) (hsk : seekI (sameP ks key) sl (hashN key) = (s, p)) (hp : 0 ≤ p) :
    Calls Tryz.prog 103 #[.agg #[.slice A ks.length c, .slice S sl.length d], .slice E key.length ce] w (PutPostF ks sl p false w) := by
  have q0 := ((Q.refl w).alloc (Obj.cells #[Value.slice A ks.length c, Value.slice S sl.length d] 26)).alloc (Obj.cells #[Value.slice none 0 0, Value.slice none 0 0] 26)
  have Hk := Lib.hid ((hk.q (Nat.le_refl _) q0).more q0.size)
  have HS := Lib.hid ((hS.q (Nat.le_refl _) q0).more q0.size)
  have He := Lib.hid ((he.q (Nat.le_refl _) q0).more q0.size)
  have Hs := Lib.hid hs
  have Hsk := Lib.hid hsk
  have HB := Lib.hid (TwoB.new w (Value.slice A ks.length c) (Value.slice S sl.length d) (Value.slice none 0 0) (Value.slice none 0 0) 26 26)
  clear hk hS he hs hsk
  have hkm : key.length ≤ maxLen := by unfold maxLen; omega
  go_enter Tryz.func103, Tryz.ntmps103
  go_wp2_with fail
  generalize (w.alloc (Obj.cells #[Value.slice A ks.length c, Value.slice S sl.length d] 26)).alloc (Obj.cells #[Value.slice none 0 0, Value.slice none 0 0] 26) = W0 at *
  have k0 := HB.out.c0
  have k1 := HB.out.c1
  have hlt : w.heap.size < W0.heap.size := by have := HB.out.lt; omega
  go_region_held3 (fun w' => w'.cell? ⟨w.heap.size, 0, none⟩ = some (.slice A ks.length c) ∧ w'.cell? ⟨w.heap.size, 1, none⟩ = some (.slice S sl.length d))
    (first
      | go_keep
      | exact ⟨(p1.cell (p := ⟨w.heap.size, 0, none⟩) hlt).trans k0, (p1.cell (p := ⟨w.heap.size, 1, none⟩) hlt).trans k1⟩
      | exact ⟨((p1.trans q2).cell (p := ⟨w.heap.size, 0, none⟩) hlt).trans k0, ((p1.trans q2).cell (p := ⟨w.heap.size, 1, none⟩) hlt).trans k1⟩)
    (first
      | (go_at_call 110; refine (hashN_any _ _ _ key _ rfl (by exact He.out) hkm).mono ?_; rintro e w' ⟨rfl, rfl⟩)
      | (go_at_call 111; refine (sameAsQ_any _ _ _ _ _ _ ks key _ rfl rfl (by exact Hk.out) (by exact He.out) Hs.out).mono ?_; rintro e w1 ⟨Bk, Be, rfl, q1, hC⟩; have HC := Lib.hid hC; clear hC; have p1 := (Q.refl W0).drew.trans q1)
      | (go_at_call 109; refine (seek_same _ _ _ sl _ (sameP ks key) Bk Be _ rfl (by exact ((HS.out.q (Nat.le_refl _) p1).more p1.size)) (hashN_lt _) (by omega) HC.out).mono ?_; rintro e w2 ⟨rfl, q2⟩; rw [Hsk.out]))
  have q02 := p1.trans q2
  have HB2 := Lib.hid (HB.out.q q02)
  have k1' := HB2.out.c1
  clear k0 k1 q1 q2 p1 HC
  go_wp2_with fail
  refine (clone_any _ _ _ sl _ rfl ((HS.out.q (Nat.le_refl _) q02).more q02.size) hsl).mono ?_
  rintro e w3 ⟨S3, d3, rfl, hS3, q3⟩
  have HS3 := Lib.hid hS3
  have q03 := q02.trans q3
  have HB3 := Lib.hid (HB2.out.q q3)
  have c0 := HB3.out.c0
  clear k1' hS3
  go_wp2_with fail
  refine (copyKeys_any _ _ _ _ _ _ ks [] _ rfl rfl ((Hk.out.q (Nat.le_refl _) q03).more q03.size) (fun h => absurd h (by simp)) (by rw [List.append_nil]; omega) (by rw [List.append_nil]; omega)).mono ?_
  rintro e w4 ⟨A4, c4, rfl, hK4, q4, hcp4⟩
  have Hcp4 := Lib.hid hcp4
  clear hcp4
  rw [List.append_nil] at hK4 ⊢
  have q04 := q03.trans q4
  have HB4 := Lib.hid (HB3.out.q q4)
  have r0 := HB4.out.r0
  have r1 := HB4.out.r1
  have f0 := HB4.out.f0
  have f1 := HB4.out.f1
  have HK4 := Lib.hid hK4
  clear c0 hK4
  go_wp2_with fail
  have hW : ∀ q : Addr, w2.heap.size ≤ q.block → ((w4.setCell ⟨w.heap.size + 1, 0, none⟩ (.slice A4 ks.length c4)).setCell ⟨w.heap.size + 1, 1, none⟩ (.slice S3 sl.length d3)).cell? q = w4.cell? q := fun q hq => set_two_other _ _ _ _ _ (by have := HB2.out.lt; omega)
  obtain ⟨y0, y1, yq⟩ := set_two (w := w) (u := .slice A4 ks.length c4) (v := .slice S3 sl.length d3) r0 r1
  have hz : ((w4.setCell ⟨w.heap.size + 1, 0, none⟩ (.slice A4 ks.length c4)).setCell ⟨w.heap.size + 1, 1, none⟩ (.slice S3 sl.length d3)).heap.size = w4.heap.size := by simp [World.setCell]
  have hlt2 := HB2.out.lt
  have hz3 := q3.size
  have hz4 := q4.size
  refine bodyPost_ret (v := .tuple #[.agg #[.slice A4 ks.length c4, .slice S3 sl.length d3], .int .i64 p, .bool false]) (by simp [results, Tryz.f103, go_sem, y0, y1]) rfl
    ⟨A4, c4, S3, d3, rfl, fun W hWW => ?_, yq (q0.trans q04), by have := Hcp4.out; rwa [List.append_nil] at this⟩
  rw [hz] at hWW ⊢
  exact ⟨HK4.out W fun q hq hq2 => (hWW q (by omega) hq2).trans (hW q (by omega)), clone_intsF HS3.out q4 rfl fun q hq hq2 => (hWW q (by omega) hq2).trans (hW q hq)⟩

set_option maxRecDepth 100000 in
set_option maxHeartbeats 1000000 in
theorem putF_lay2 (A S E : Option Addr) (c d ce : Nat) (ks : List (List Int)) (sl key : List Int) (w : World) (s p : Int) (hk : Keys w w.heap.size A ks) (hS : Ints w w.heap.size S sl) (he : Ints w w.heap.size E key)
    (hs : ∀ k ∈ ks, k.length ≤ maxLen) (hkl : key.length ≤ 5000) (hsl : sl.length ≤ 100000) (hl : ks.length ≤ 5000) (ht : ks.flatten.length ≤ 50000) (hsk : seekI (sameP ks key) sl (hashN key) = (s, p)) (hce : key.length ≤ ce) (hp : p < 0) (hsn : 0 ≤ s) (hq : sl.length ≠ sizeN (ks.length + 1)) :
    Calls Tryz.prog 103 #[.agg #[.slice A ks.length c, .slice S sl.length d], .slice E key.length ce] w (PutPostF (ks ++ [key]) (layI (ks ++ [key])) ks.length true w) := by
  have q0 := ((Q.refl w).alloc (Obj.cells #[Value.slice A ks.length c, Value.slice S sl.length d] 26)).alloc (Obj.cells #[Value.slice none 0 0, Value.slice none 0 0] 26)
  have Hk := Lib.hid ((hk.q (Nat.le_refl _) q0).more q0.size)
  have HS := Lib.hid ((hS.q (Nat.le_refl _) q0).more q0.size)
  have He := Lib.hid ((he.q (Nat.le_refl _) q0).more q0.size)
  have Hs := Lib.hid hs
  have Hsk := Lib.hid hsk
  have HB := Lib.hid (TwoB.new w (Value.slice A ks.length c) (Value.slice S sl.length d) (Value.slice none 0 0) (Value.slice none 0 0) 26 26)
  clear hk hS he hs hsk
  have hkm : key.length ≤ maxLen := by unfold maxLen; omega
  go_enter Tryz.func103, Tryz.ntmps103
  go_wp2_with fail
  generalize (w.alloc (Obj.cells #[Value.slice A ks.length c, Value.slice S sl.length d] 26)).alloc (Obj.cells #[Value.slice none 0 0, Value.slice none 0 0] 26) = W0 at *
  have k0 := HB.out.c0
  have k1 := HB.out.c1
  have hlt : w.heap.size < W0.heap.size := by have := HB.out.lt; omega
  go_region_held3 (fun w' => w'.cell? ⟨w.heap.size, 0, none⟩ = some (.slice A ks.length c) ∧ w'.cell? ⟨w.heap.size, 1, none⟩ = some (.slice S sl.length d))
    (first
      | go_keep
      | exact ⟨(p1.cell (p := ⟨w.heap.size, 0, none⟩) hlt).trans k0, (p1.cell (p := ⟨w.heap.size, 1, none⟩) hlt).trans k1⟩
      | exact ⟨((p1.trans q2).cell (p := ⟨w.heap.size, 0, none⟩) hlt).trans k0, ((p1.trans q2).cell (p := ⟨w.heap.size, 1, none⟩) hlt).trans k1⟩)
    (first
      | (go_at_call 110; refine (hashN_any _ _ _ key _ rfl (by exact He.out) hkm).mono ?_; rintro e w' ⟨rfl, rfl⟩)
      | (go_at_call 111; refine (sameAsQ_any _ _ _ _ _ _ ks key _ rfl rfl (by exact Hk.out) (by exact He.out) Hs.out).mono ?_; rintro e w1 ⟨Bk, Be, rfl, q1, hC⟩; have HC := Lib.hid hC; clear hC; have p1 := (Q.refl W0).drew.trans q1)
      | (go_at_call 109; refine (seek_same _ _ _ sl _ (sameP ks key) Bk Be _ rfl (by exact ((HS.out.q (Nat.le_refl _) p1).more p1.size)) (hashN_lt _) (by omega) HC.out).mono ?_; rintro e w2 ⟨rfl, q2⟩; rw [Hsk.out]))
  have q02 := p1.trans q2
  have HB2 := Lib.hid (HB.out.q q02)
  have k1' := HB2.out.c1
  clear k0 k1 q1 q2 p1 HC
  go_wp2_with fail
  refine (clone_any _ _ _ sl _ rfl ((HS.out.q (Nat.le_refl _) q02).more q02.size) hsl).mono ?_
  rintro e w3 ⟨S3, d3, rfl, hS3, q3⟩
  have HS3 := Lib.hid hS3
  have q03 := q02.trans q3
  have HB3 := Lib.hid (HB2.out.q q3)
  have c0 := HB3.out.c0
  clear k1' hS3
  have Hkey : Hid (∀ W : World, Q W0 W → Keys (W.alloc (.cells #[.slice E key.length ce] 24)) (W.alloc (.cells #[.slice E key.length ce] 24)).heap.size (some ⟨W.heap.size, 0, none⟩) [key]) := fun W hW _ => by
    have q1 := (Q.refl W).alloc (.cells #[.slice E key.length ce] 24)
    refine ⟨_, rfl, by simp, fun i k hk => ?_⟩
    match i, hk with
    | 0, hk =>
      obtain rfl : key = k := by simpa using hk
      have q2 := hW.trans q1
      exact ⟨E, ce, hce, by rw [add_zero_head, cell_of_row _ _ _ _ _ _ (heap_alloc_new W _)]; rfl, (He.out.q (Nat.le_refl _) q2).more q2.size⟩
  have HN : Hid ((ks ++ [key]).length = ks.length + 1) := Lib.hid (by simp)
  have HT : Hid ((ks ++ [key]).flatten.length ≤ 60000) := Lib.hid (by rw [List.flatten_append, List.length_append]; simp only [List.flatten_cons, List.flatten_nil, List.append_nil]; omega)
  have HSz : Hid (∀ k ∈ ks ++ [key], k.length ≤ maxLen) := fun k hk => by
    rw [List.mem_append, List.mem_singleton] at hk
    rcases hk with h | rfl
    · exact Hs.out k h
    · exact hkm
  go_wp2_with fail
  refine (copyKeys_any _ _ _ _ _ _ ks [key] _ rfl rfl ((Hk.out.q (Nat.le_refl _) (q03.alloc _)).more (q03.alloc _).size) (Hkey.out w3 q03) (by rw [HN.out]; omega) (by have := HT.out; omega)).mono ?_
  rintro e w5 ⟨A5, c5, rfl, hK5, q5, hcp5⟩
  have Hcp5 := Lib.hid hcp5
  clear hcp5
  rw [HN.out]
  have q35 := ((Q.refl w3).alloc _).trans q5
  have q05 := q03.trans q35
  have HB5 := Lib.hid (HB3.out.q q35)
  have HK5 := Lib.hid hK5
  have hN := HN.out
  clear c0 hK5 q5
  have hne : ((sl.length : Int) != (sizeN (ks.length + 1) : Int)) = true := by simp; omega
  go_wp2_with fail
  refine (size1_any ks.length _ (by omega)).mono ?_
  rintro e w6 ⟨rfl, rfl⟩
  go_wp2_with fail
  refine (lay_any _ _ _ (ks ++ [key]) _ HN.out.symm (HK5.out w5 (fun _ _ _ => rfl)) (by omega) HSz.out).mono ?_
  rintro e w6 ⟨g, rfl, hg, hO, q6⟩
  have q06 := q05.trans q6
  have HB6 := Lib.hid (HB5.out.q q6)
  have HO := Lib.hid hO
  have r0 := HB6.out.r0
  have r1 := HB6.out.r1
  have f0 := HB6.out.f0
  have f1 := HB6.out.f1
  have c0 := HB6.out.c0
  clear hO
  go_wp2_with fail
  go_region
  all_goals go_wp2_with fail
  obtain ⟨y0, y1, _⟩ := set_two (w := w) (u := .slice A5 (ks.length + 1) c5) (v := .slice (some ⟨g, 0, none⟩) (sizeN (ks.length + 1)) (sizeN (ks.length + 1))) r0 r1
  have hlt3 := HB3.out.lt
  have hz3 := q35.size
  refine bodyPost_ret (v := .tuple #[.agg #[.slice A5 (ks.length + 1) c5, .slice (some ⟨g, 0, none⟩) (sizeN (ks.length + 1)) (sizeN (ks.length + 1))], .int .i64 ks.length, .bool true]) (by simp [results, Tryz.f103, go_sem, y0, y1]) rfl
    (putF_close (hcp := Hcp5.out) (w3 := w3.alloc (Obj.cells #[Value.slice E key.length ce] 24)) (w5 := w5) (w7 := w6) HN.out.symm (by rw [layI_length, HN.out]) rfl rfl rfl (by simp; omega) (by omega) HO.out (fun p _ h2 => q6.cell h2) q6.size HK5.out (q0.trans q06) _)

set_option maxRecDepth 100000 in
set_option maxHeartbeats 1000000 in
theorem putF_set (A S E : Option Addr) (c d ce : Nat) (ks : List (List Int)) (sl key : List Int) (w : World) (s p : Int) (hk : Keys w w.heap.size A ks) (hS : Ints w w.heap.size S sl) (he : Ints w w.heap.size E key)
    (hs : ∀ k ∈ ks, k.length ≤ maxLen) (hkl : key.length ≤ 5000) (hsl : sl.length ≤ 100000) (hl : ks.length ≤ 5000) (ht : ks.flatten.length ≤ 50000) (hsk : seekI (sameP ks key) sl (hashN key) = (s, p)) (hce : key.length ≤ ce) (hp : p < 0) (sn : Nat) (hse : s = sn) (hsl2 : sn < sl.length) (hq : sl.length = sizeN (ks.length + 1)) :
    Calls Tryz.prog 103 #[.agg #[.slice A ks.length c, .slice S sl.length d], .slice E key.length ce] w (PutPostF (ks ++ [key]) (sl.set sn ((ks.length : Int) + 1)) ks.length true w) := by
  subst hse
  have Hq := Lib.hid hq
  clear hq
  have q0 := ((Q.refl w).alloc (Obj.cells #[Value.slice A ks.length c, Value.slice S sl.length d] 26)).alloc (Obj.cells #[Value.slice none 0 0, Value.slice none 0 0] 26)
  have Hk := Lib.hid ((hk.q (Nat.le_refl _) q0).more q0.size)
  have HS := Lib.hid ((hS.q (Nat.le_refl _) q0).more q0.size)
  have He := Lib.hid ((he.q (Nat.le_refl _) q0).more q0.size)
  have Hs := Lib.hid hs
  have Hsk := Lib.hid hsk
  have HB := Lib.hid (TwoB.new w (Value.slice A ks.length c) (Value.slice S sl.length d) (Value.slice none 0 0) (Value.slice none 0 0) 26 26)
  clear hk hS he hs hsk
  have hkm : key.length ≤ maxLen := by unfold maxLen; omega
  go_enter Tryz.func103, Tryz.ntmps103
  go_wp2_with fail
  generalize (w.alloc (Obj.cells #[Value.slice A ks.length c, Value.slice S sl.length d] 26)).alloc (Obj.cells #[Value.slice none 0 0, Value.slice none 0 0] 26) = W0 at *
  have k0 := HB.out.c0
  have k1 := HB.out.c1
  have hlt : w.heap.size < W0.heap.size := by have := HB.out.lt; omega
  go_region_held3 (fun w' => w'.cell? ⟨w.heap.size, 0, none⟩ = some (.slice A ks.length c) ∧ w'.cell? ⟨w.heap.size, 1, none⟩ = some (.slice S sl.length d))
    (first
      | go_keep
      | exact ⟨(p1.cell (p := ⟨w.heap.size, 0, none⟩) hlt).trans k0, (p1.cell (p := ⟨w.heap.size, 1, none⟩) hlt).trans k1⟩
      | exact ⟨((p1.trans q2).cell (p := ⟨w.heap.size, 0, none⟩) hlt).trans k0, ((p1.trans q2).cell (p := ⟨w.heap.size, 1, none⟩) hlt).trans k1⟩)
    (first
      | (go_at_call 110; refine (hashN_any _ _ _ key _ rfl (by exact He.out) hkm).mono ?_; rintro e w' ⟨rfl, rfl⟩)
      | (go_at_call 111; refine (sameAsQ_any _ _ _ _ _ _ ks key _ rfl rfl (by exact Hk.out) (by exact He.out) Hs.out).mono ?_; rintro e w1 ⟨Bk, Be, rfl, q1, hC⟩; have HC := Lib.hid hC; clear hC; have p1 := (Q.refl W0).drew.trans q1)
      | (go_at_call 109; refine (seek_same _ _ _ sl _ (sameP ks key) Bk Be _ rfl (by exact ((HS.out.q (Nat.le_refl _) p1).more p1.size)) (hashN_lt _) (by omega) HC.out).mono ?_; rintro e w2 ⟨rfl, q2⟩; rw [Hsk.out]))
  have q02 := p1.trans q2
  have HB2 := Lib.hid (HB.out.q q02)
  have k1' := HB2.out.c1
  clear k0 k1 q1 q2 p1 HC
  go_wp2_with fail
  refine (clone_any _ _ _ sl _ rfl ((HS.out.q (Nat.le_refl _) q02).more q02.size) hsl).mono ?_
  rintro e w3 ⟨S3, d3, rfl, hS3, q3⟩
  have HS3 := Lib.hid hS3
  have q03 := q02.trans q3
  have HB3 := Lib.hid (HB2.out.q q3)
  have c0 := HB3.out.c0
  clear k1' hS3
  have Hkey : Hid (∀ W : World, Q W0 W → Keys (W.alloc (.cells #[.slice E key.length ce] 24)) (W.alloc (.cells #[.slice E key.length ce] 24)).heap.size (some ⟨W.heap.size, 0, none⟩) [key]) := fun W hW _ => by
    have q1 := (Q.refl W).alloc (.cells #[.slice E key.length ce] 24)
    refine ⟨_, rfl, by simp, fun i k hk => ?_⟩
    match i, hk with
    | 0, hk =>
      obtain rfl : key = k := by simpa using hk
      have q2 := hW.trans q1
      exact ⟨E, ce, hce, by rw [add_zero_head, cell_of_row _ _ _ _ _ _ (heap_alloc_new W _)]; rfl, (He.out.q (Nat.le_refl _) q2).more q2.size⟩
  have HN : Hid ((ks ++ [key]).length = ks.length + 1) := Lib.hid (by simp)
  have HT : Hid ((ks ++ [key]).flatten.length ≤ 60000) := Lib.hid (by rw [List.flatten_append, List.length_append]; simp only [List.flatten_cons, List.flatten_nil, List.append_nil]; omega)
  have HSz : Hid (∀ k ∈ ks ++ [key], k.length ≤ maxLen) := fun k hk => by
    rw [List.mem_append, List.mem_singleton] at hk
    rcases hk with h | rfl
    · exact Hs.out k h
    · exact hkm
  go_wp2_with fail
  refine (copyKeys_any _ _ _ _ _ _ ks [key] _ rfl rfl ((Hk.out.q (Nat.le_refl _) (q03.alloc _)).more (q03.alloc _).size) (Hkey.out w3 q03) (by rw [HN.out]; omega) (by have := HT.out; omega)).mono ?_
  rintro e w5 ⟨A5, c5, rfl, hK5, q5, hcp5⟩
  have Hcp5 := Lib.hid hcp5
  clear hcp5
  rw [HN.out]
  have q35 := ((Q.refl w3).alloc _).trans q5
  have q05 := q03.trans q35
  have HB5 := Lib.hid (HB3.out.q q35)
  have HK5 := Lib.hid hK5
  have hN := HN.out
  clear c0 hK5 q5

  have Hz : Hid (sizeN (ks.length + 1) = sl.length) := Lib.hid Hq.out.symm
  have hne : ((sl.length : Int) != (sl.length : Int)) = false := by simp
  obtain ⟨g3, rfl, hg3, ho3⟩ := HS3.out (by omega)
  have HO := Lib.hid (ho3.q q35)
  have h0 := (HO.out.at_ hsl2).1
  have h1 := (HO.out.at_ hsl2).2
  have hlt2 := HB2.out.lt
  clear ho3
  go_wp2_with fail
  refine (size1_any ks.length _ (by omega)).mono ?_
  rintro e w6 ⟨rfl, rfl⟩
  rw [Hz.out]
  go_upto_region 9 with fail
  have Hs2 := Lib.hid hsl2
  have HO7 := Lib.hid (HO.out.set Hs2.out ((ks.length : Int) + 1))
  have HB7 := Lib.hid (HB5.out.set (g := g3) (i := sn) (by omega) (.int .i64 ((ks.length : Int) + 1)))
  have q57 : Q w (w5.setCell ⟨g3, sn, none⟩ (.int .i64 ((ks.length : Int) + 1))) := (q0.trans q05).setCell (p := ⟨g3, sn, none⟩) (by show _ ≤ g3; omega) _
  have H57 : Hid (∀ p : Addr, p.block ≠ g3 → (w5.setCell ⟨g3, sn, none⟩ (.int .i64 ((ks.length : Int) + 1))).cell? p = w5.cell? p) := fun p hp => World.cell?_setCell_far _ _ _ _ (fun e => hp e.symm)
  have hz7 : w5.heap.size ≤ (w5.setCell ⟨g3, sn, none⟩ (.int .i64 ((ks.length : Int) + 1))).heap.size := by simp [World.setCell]
  clear h0 h1
  generalize w5.setCell ⟨g3, sn, none⟩ (.int .i64 ((ks.length : Int) + 1)) = w7 at *
  have r0 := HB7.out.r0
  have r1 := HB7.out.r1
  have f0 := HB7.out.f0
  have f1 := HB7.out.f1
  have c0 := HB7.out.c0
  have hg3' : g3 < w3.heap.size := by have := (HS3.out (by omega)); obtain ⟨g', e, _, o⟩ := this; injection e with e; injection e with e; subst e; exact o.1
  go_region
  all_goals go_wp2_with fail
  obtain ⟨y0, y1, _⟩ := set_two (w := w) (u := .slice A5 (ks.length + 1) c5) (v := .slice (some ⟨g3, 0, none⟩) sl.length d3) r0 r1
  have hlt3 := HB3.out.lt
  have hz3 := q35.size
  refine bodyPost_ret (v := .tuple #[.agg #[.slice A5 (ks.length + 1) c5, .slice (some ⟨g3, 0, none⟩) sl.length d3], .int .i64 ks.length, .bool true]) (by simp [results, Tryz.f103, go_sem, y0, y1]) rfl
    (putF_close (hcp := Hcp5.out) (w3 := w3.alloc (Obj.cells #[Value.slice E key.length ce] 24)) (w5 := w5) (w7 := w7) HN.out.symm (by rw [List.length_set]) rfl rfl rfl (by simp; omega) (by omega) HO7.out (fun p h1 h2 => H57.out p (by simp at h1; omega)) hz7 HK5.out q57 _)

theorem putF_any (A S E : Option Addr) (n c m d ke ce : Nat) (ks : List (List Int)) (key : List Int) (w : World) (hn : n = ks.length) (hm : m = (layI ks).length) (hke : ke = key.length) (hk : Keys w w.heap.size A ks) (hS : Ints w w.heap.size S (layI ks)) (he : Ints w w.heap.size E key)
    (hd : Dist ks) (hs : ∀ k ∈ ks, k.length ≤ maxLen) (hkl : key.length ≤ 5000) (hl : ks.length ≤ 5000) (ht : ks.flatten.length ≤ 50000) (hce : key.length ≤ ce) :
    Calls Tryz.prog 103 #[.agg #[.slice A n c, .slice S m d], .slice E ke ce] w (PutPostF (putL ks key) (layI (putL ks key)) (placeI ks key) (newB ks key) w) := by
  subst hn
  subst hm
  subst hke
  have hz : (layI ks).length ≤ 100000 := by rw [layI_length]; have := sizeN_le ks.length; omega
  rcases atI_cases ks key with ⟨h1, h2⟩ | ⟨i, h1, h2⟩
  · obtain ⟨h3, h4⟩ := find_not (lay_inv ks) (lay_lt ks) h2
    have e1 : putL ks key = ks ++ [key] := by unfold putL; rw [if_pos (by omega)]
    have e2 : placeI ks key = (ks.length : Int) := by unfold placeI; rw [if_pos (by omega)]
    have e3 : newB ks key = true := by unfold newB; exact decide_eq_true (by omega)
    rw [e1, e2, e3]
    by_cases hq : sizeN (ks.length + 1) = sizeN ks.length
    · rw [lay_snoc hq]
      exact putF_set A S E c d ce ks (layI ks) key w _ _ hk hS he hs hkl hz hl ht h4 hce (by omega) _ rfl h3 (by rw [layI_length, hq])
    · exact putF_lay2 A S E c d ce ks (layI ks) key w _ _ hk hS he hs hkl hz hl ht h4 hce (by omega) (by omega) (by rw [layI_length]; omega)
  · obtain ⟨s, h3, h4⟩ := find_there (lay_inv ks) hd (by omega) h1
    have e1 : putL ks key = ks := by unfold putL; rw [if_neg (by omega)]
    have e2 : placeI ks key = (i : Int) := by unfold placeI; rw [if_neg (by omega)]; exact h2
    have e3 : newB ks key = false := by unfold newB; exact decide_eq_false (by omega)
    rw [e1, e2, e3]
    exact putF_old A S E c d ce ks (layI ks) key w _ _ hk hS he hs hkl hz hl ht h4 (by omega)
end Go.Proofs.YtdmdcggmgipdbaaGreatDoor.Hs
