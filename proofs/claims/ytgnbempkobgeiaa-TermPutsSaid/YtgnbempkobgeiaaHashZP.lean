/-
  Contract of the document's Put, once more: in which blocks its answer lies (what outlives stores into other blocks).
-/
import Derived.Test.YtgnbempkobgeiaaHashZ
namespace Go.Proofs.Ytgnbempkobgeiaa.Hs
open Go.RowKit Kit

/-- a slice value that reads as these numbers, in a block of this kind -/
def IntsP (w : World) (P : Nat → Prop) (A : Option Addr) (xs : List Int) : Prop := 0 < xs.length → ∃ ad, A = some ad ∧ P ad.block ∧ ad.block < w.heap.size ∧ ∀ i x, xs[i]? = some x → w.cell? (ad.add i) = some (.int .i64 x)
def KeysP (w : World) (P : Nat → Prop) (A : Option Addr) (ks : List (List Int)) : Prop :=
  0 < ks.length → ∃ ad, A = some ad ∧ P ad.block ∧ ad.block < w.heap.size ∧ ∀ i k, ks[i]? = some k → ∃ a c, k.length ≤ c ∧ w.cell? (ad.add i) = some (.slice a k.length c) ∧ IntsP w P a k
section
variable {w w' : World} {P : Nat → Prop} {A : Option Addr}
theorem IntsP.ints {xs : List Int} (h : IntsP w P A xs) : Ints w w.heap.size A xs := fun h0 => by
  obtain ⟨ad, e, _, hl, hc⟩ := h h0
  exact ⟨ad, e, hl, hc⟩
theorem KeysP.keys {ks : List (List Int)} (h : KeysP w P A ks) : Keys w w.heap.size A ks := fun h0 => by
  obtain ⟨ad, e, _, hl, hc⟩ := h h0
  exact ⟨ad, e, hl, fun i k hk => by obtain ⟨a, c, h1, h2, h3⟩ := hc i k hk; exact ⟨a, c, h1, h2, h3.ints⟩⟩
theorem IntsP.q {xs : List Int} (h : IntsP w P A xs) (q : Q w w') : IntsP w' P A xs := fun h0 => by
  obtain ⟨ad, e, hp, hl, hc⟩ := h h0
  exact ⟨ad, e, hp, Nat.lt_of_lt_of_le hl q.size, fun i x hx => (q.cell (by rw [add_block]; exact hl)).trans (hc i x hx)⟩
theorem KeysP.q {ks : List (List Int)} (h : KeysP w P A ks) (q : Q w w') : KeysP w' P A ks := fun h0 => by
  obtain ⟨ad, e, hp, hl, hc⟩ := h h0
  exact ⟨ad, e, hp, Nat.lt_of_lt_of_le hl q.size, fun i k hk => by obtain ⟨a, c, h1, h2, h3⟩ := hc i k hk; exact ⟨a, c, h1, (q.cell (by rw [add_block]; exact hl)).trans h2, h3.q q⟩⟩
theorem Ints.p {lo : Nat} {xs : List Int} (h : Ints w lo A xs) (hlo : lo ≤ w.heap.size) (hP : ∀ b, b < lo → P b) : IntsP w P A xs := fun h0 => by
  obtain ⟨ad, e, hl, hc⟩ := h h0
  exact ⟨ad, e, hP _ hl, by omega, hc⟩
theorem Keys.p {lo : Nat} {ks : List (List Int)} (h : Keys w lo A ks) (hlo : lo ≤ w.heap.size) (hP : ∀ b, b < lo → P b) : KeysP w P A ks := fun h0 => by
  obtain ⟨ad, e, hl, hc⟩ := h h0
  exact ⟨ad, e, hP _ hl, by omega, fun i k hk => by obtain ⟨a, c, h1, h2, h3⟩ := hc i k hk; exact ⟨a, c, h1, h2, h3.p hlo hP⟩⟩
/-- another world, the same in blocks of this kind -/
theorem IntsP.to {W : World} {xs : List Int} (h : IntsP w P A xs) (hs : w.heap.size ≤ W.heap.size) (hW : ∀ p : Addr, P p.block → p.block < w.heap.size → W.cell? p = w.cell? p) : Ints W W.heap.size A xs := fun h0 => by
  obtain ⟨ad, e, hp, hl, hc⟩ := h h0
  exact ⟨ad, e, by omega, fun i x hx => by rw [hW _ (by rw [add_block]; exact hp) (by rw [add_block]; exact hl)]; exact hc i x hx⟩
theorem KeysP.to {W : World} {ks : List (List Int)} (h : KeysP w P A ks) (hs : w.heap.size ≤ W.heap.size) (hW : ∀ p : Addr, P p.block → p.block < w.heap.size → W.cell? p = w.cell? p) : Keys W W.heap.size A ks := fun h0 => by
  obtain ⟨ad, e, hp, hl, hc⟩ := h h0
  refine ⟨ad, e, by omega, fun i k hk => ?_⟩
  obtain ⟨a, c, h1, h2, h3⟩ := hc i k hk
  exact ⟨a, c, h1, by rw [hW _ (by rw [add_block]; exact hp) (by rw [add_block]; exact hl)]; exact h2, h3.to hs hW⟩
theorem IntsP.toP {W : World} {P' : Nat → Prop} {xs : List Int} (h : IntsP w P A xs) (hs : w.heap.size ≤ W.heap.size) (hW : ∀ p : Addr, P p.block → p.block < w.heap.size → W.cell? p = w.cell? p) (hP : ∀ b, P b → b < w.heap.size → P' b) : IntsP W P' A xs := fun h0 => by
  obtain ⟨ad, e, hp, hl, hc⟩ := h h0
  exact ⟨ad, e, hP _ hp hl, by omega, fun i x hx => by rw [hW _ (by rw [add_block]; exact hp) (by rw [add_block]; exact hl)]; exact hc i x hx⟩
theorem KeysP.toP {W : World} {P' : Nat → Prop} {ks : List (List Int)} (h : KeysP w P A ks) (hs : w.heap.size ≤ W.heap.size) (hW : ∀ p : Addr, P p.block → p.block < w.heap.size → W.cell? p = w.cell? p) (hP : ∀ b, P b → b < w.heap.size → P' b) : KeysP W P' A ks := fun h0 => by
  obtain ⟨ad, e, hp, hl, hc⟩ := h h0
  refine ⟨ad, e, hP _ hp hl, by omega, fun i k hk => ?_⟩
  obtain ⟨a, c, h1, h2, h3⟩ := hc i k hk
  exact ⟨a, c, h1, by rw [hW _ (by rw [add_block]; exact hp) (by rw [add_block]; exact hl)]; exact h2, h3.toP hs hW hP⟩
theorem KeysP.vals {ks : List (List Int)} (h : KeysP w P A ks) :
    ∃ vs : List Value, vs.length = ks.length ∧ SrcB w w.heap.size A vs ∧ ∀ (i : Nat) (k : List Int), ks[i]? = some k → ∃ a c, k.length ≤ c ∧ vs[i]? = some (Value.slice a k.length c) ∧ IntsP w P a k := by
  obtain ⟨vs, hl, hs, hv⟩ := h.keys.vals
  refine ⟨vs, hl, hs, fun i k hk => ?_⟩
  have hil := (List.getElem?_eq_some_iff.1 hk).1
  obtain ⟨ad, e, _, _, hc⟩ := h (by omega)
  obtain ⟨a', c', hle', e', hI⟩ := hc i k hk
  obtain ⟨ad2, e2, _, hc2⟩ := hs (by omega)
  rw [e] at e2
  injection e2 with e2
  subst e2
  obtain ⟨a, c, _, ev, _⟩ := hv i k hk
  have h2 := hc2 i _ ev
  rw [e'] at h2
  injection h2 with h2
  exact ⟨a', c', hle', by rw [h2]; exact ev, hI⟩
end
theorem valsP_plain {w : World} {P : Nat → Prop} {ks : List (List Int)} {vs : List Value} (h : ∀ (i : Nat) (k : List Int), ks[i]? = some k → ∃ a c, k.length ≤ c ∧ vs[i]? = some (Value.slice a k.length c) ∧ IntsP w P a k) :
    ∀ (i : Nat) (k : List Int), ks[i]? = some k → ∃ a c, k.length ≤ c ∧ vs[i]? = some (Value.slice a k.length c) ∧ Ints w w.heap.size a k := fun i k hk => by
  obtain ⟨a, c, h1, h2, h3⟩ := h i k hk
  exact ⟨a, c, h1, h2, h3.ints⟩
theorem valsP_append {w : World} {P : Nat → Prop} {ks ks' : List (List Int)} {vs vs' : List Value} (hl : vs.length = ks.length) (h : ∀ (i : Nat) (k : List Int), ks[i]? = some k → ∃ a c, k.length ≤ c ∧ vs[i]? = some (Value.slice a k.length c) ∧ IntsP w P a k)
    (h' : ∀ (i : Nat) (k : List Int), ks'[i]? = some k → ∃ a c, k.length ≤ c ∧ vs'[i]? = some (Value.slice a k.length c) ∧ IntsP w P a k) :
    ∀ (i : Nat) (k : List Int), (ks ++ ks')[i]? = some k → ∃ a c, k.length ≤ c ∧ (vs ++ vs')[i]? = some (Value.slice a k.length c) ∧ IntsP w P a k := fun i k hk => by
  rw [List.getElem?_append] at hk ⊢
  rw [hl]
  split at hk
  · rename_i h1; rw [if_pos h1]; exact h i k hk
  · rename_i h1; rw [if_neg h1]; exact h' _ k hk
theorem own_keysP {w w5 W : World} {P : Nat → Prop} {base g n cap : Nat} {ks : List (List Int)} {vs : List Value} (own : w5.ownsRow base 24 1 (.slice (some ⟨g, 0, none⟩) n cap) n vs) (hv : ∀ (i : Nat) (k : List Int), ks[i]? = some k → ∃ a c, k.length ≤ c ∧ vs[i]? = some (Value.slice a k.length c) ∧ IntsP w P a k)
    (hW : ∀ p : Addr, p.block = g → W.cell? p = w5.cell? p) (q : Q w W) (hB : w5.heap.size ≤ W.heap.size) (hg : P g) : KeysP W P (some ⟨g, 0, none⟩) ks := fun _ => by
  refine ⟨_, rfl, hg, Nat.lt_of_lt_of_le (own.lt g rfl).2 hB, fun i k hk => ?_⟩
  obtain ⟨a, c, hle, e, hi⟩ := hv i k hk
  refine ⟨a, c, hle, ?_, hi.q q⟩
  rw [hW _ (by rw [add_block])]
  exact own.cells (g := g) rfl i _ e
def PutPostP (P : Nat → Prop) (ks : List (List Int)) (sl : List Int) (p : Int) (nw : Bool) (w : World) (e : Ending) (w' : World) : Prop :=
  ∃ A c S d, e = .returned (.tuple #[.agg #[.slice A ks.length c, .slice S sl.length d], .int .i64 p, .bool nw]) ∧ KeysP w' P A ks ∧ IntsP w' P S sl ∧ Q w w'

set_option maxRecDepth 100000 in
set_option maxHeartbeats 1000000 in
theorem refPutP_new (P : Nat → Prop) (A S E : Option Addr) (c d ce : Nat) (ks : List (List Int)) (sl key : List Int) (w : World) (hkP : KeysP w P A ks) (heP : IntsP w P E key) (hP : ∀ b, w.heap.size ≤ b → P b)
    (hs : ∀ k ∈ ks, k.length ≤ maxLen) (hkl : key.length ≤ 1000) (hl : ks.length ≤ 5000) (hce : key.length ≤ ce) (hat : atI ks key = -1) :
    Calls Try.prog 33 #[.agg #[.slice A ks.length c, .slice S sl.length d], .slice E key.length ce] w (PutPostP P (ks ++ [key]) (layI (ks ++ [key])) ks.length true w) := by
  have hk := hkP.keys
  have he := heP.ints
  have HP := Lib.hid hP
  obtain ⟨V, hV, sV, vVP⟩ := hkP.vals
  have vV := valsP_plain vVP
  have H1 := Lib.hid (vals_one hV vV)
  have q0 := ((Q.refl w).alloc (Obj.cells #[Value.slice A ks.length c, Value.slice S sl.length d] 26)).alloc (Obj.cells #[Value.slice none 0 0, Value.slice none 0 0] 26)
  have Hk := Lib.hid ((hk.q (Nat.le_refl _) q0).more q0.size)
  have He := Lib.hid ((he.q (Nat.le_refl _) q0).more q0.size)
  have Hew := Lib.hid he
  have HsV := Lib.hid sV
  have HvV : Hid (∀ (i : Nat) (k : List Int), (ks ++ [key])[i]? = some k → ∃ a c, k.length ≤ c ∧ (V ++ [Value.slice E key.length ce])[i]? = some (Value.slice a k.length c) ∧ IntsP w P a k) :=
    valsP_append (vs' := [Value.slice E key.length ce]) (ks' := [key]) hV vVP (fun i k hk => by
      match i, hk with
      | 0, hk =>
        obtain rfl : key = k := by simpa using hk
        exact ⟨E, ce, hce, rfl, heP⟩)
  have HVl := Lib.hid hV
  have Hs := Lib.hid hs
  have Hat := Lib.hid hat
  have HN : Hid ((ks ++ [key]).length = ks.length + 1) := Lib.hid (by simp)
  have HSz : Hid (∀ k ∈ ks ++ [key], k.length ≤ maxLen) := fun k hk => by
    rw [List.mem_append, List.mem_singleton] at hk
    rcases hk with h | rfl
    · exact Hs.out k h
    · unfold maxLen; omega
  have HB := Lib.hid (TwoB.new w (Value.slice A ks.length c) (Value.slice S sl.length d) (Value.slice none 0 0) (Value.slice none 0 0) 26 26)
  obtain ⟨i0, hi, hz0, hz1, hz2⟩ := info_parts sliceInfo
  have Hi := Lib.hid hi
  have Hz0 := Lib.hid hz0
  have Hz1 := Lib.hid hz1
  have Hz2 := Lib.hid hz2
  clear hi hz0 hz1 hz2 hk he hs hat hV sV vV vVP hkP heP hP
  go_enter Try.func33, Try.ntmps33
  go_wp2_with fail
  generalize (w.alloc (Obj.cells #[Value.slice A ks.length c, Value.slice S sl.length d] 26)).alloc (Obj.cells #[Value.slice none 0 0, Value.slice none 0 0] 26) = W0 at *
  refine (refAt_any _ _ _ _ _ _ ks key _ rfl rfl Hk.out He.out (by unfold maxLen; omega) Hs.out).mono ?_
  rintro e w1 ⟨rfl, hd1⟩
  have q1 := Q.of_drewN hd1
  rw [Hat.out]
  have HB1 := Lib.hid (HB.out.q q1)
  have c0 := (HB1.out.q ((Q.refl w1).alloc (Obj.cells #[] 24))).c0
  have q01 := q0.trans q1
  have hw1 := HB1.out.lt
  have Hsrc : Hid (Src (w1.alloc (Obj.cells #[] 24)) A V) := (HsV.out.keep (q01.alloc (Obj.cells #[] 24))).src
  have Ho := Lib.hid (own_empty (base := w1.heap.size) (e := 24) (size := 1) (Nat.le_refl _) (heap_alloc_new w1 (Obj.cells #[] 24)))
  clear hd1
  go_wp2_with (first
    | (at_builtin; refine wpList_append_src _ rfl (.tmp 17) (.tmp 19) _ rfl w1.heap.size 24 i0 _ 1 24 Try.underlying23 Hi.out Hz0.out Hz1.out Hz2.out rfl (by omega) (.slice (some ⟨w1.heap.size, 0, none⟩) 0 0) 0 [] rfl Ho.out A ks.length c V rfl (by rw [HVl.out]; omega) Hsrc.out H1.out (by unfold maxLen; omega) (by omega) (by simp) ?_; intro v2 w2 own2 gr2 _)
    | (at_builtin; refine wpList_append_src _ rfl (.tmp 20) (.tmp 22) _ rfl w1.heap.size 24 i0 _ 1 24 Try.underlying23 Hi.out Hz0.out Hz1.out Hz2.out rfl (by omega) v2 (0 + ks.length) ([] ++ V) rfl (own2.alloc _) (some ⟨w2.heap.size, 0, none⟩) 1 1 [.slice E key.length ce] rfl rfl (src_block (cs := #[.slice E key.length ce]) (t := 24) (fr := (0, 0)) (heap_alloc_new w2 _)) (by simp [Value.oneCell']) (by unfold maxLen; omega) (by omega) (by have := gr2.size; simp at this ⊢; omega) ?_; intro v3 w3 own3 gr3 _))
  have b2 : Below w1.heap.size w1 w2 := ((Q.refl w1).alloc (Obj.cells #[] 24)).grown gr2 (by simp) (by simp [Value.ownBlock])
  have b3 : Q w1 w3 := (b2.alloc b2.size (Obj.cells #[.slice E key.length ce] 24)).grown gr3 (by have := b2.size; simp; omega) (fun k hk => (own2.lt k hk).1)
  rw [Nat.zero_add, List.nil_append] at own3
  obtain ⟨g, cap, hv3, hgb⟩ := own3.form (by omega)
  rw [hv3] at own3
  rw [hv3]
  have q03 := q01.trans b3
  have HB3 := Lib.hid (HB1.out.q b3)
  have hg1 : w1.heap.size ≤ g := (own3.lt g rfl).1
  have Ho3 := Lib.hid own3
  have HK3 : Hid (Keys w3 w3.heap.size (some ⟨g, 0, none⟩) (ks ++ [key])) := own_keys Ho3.out (valsP_plain HvV.out) (fun _ _ => rfl) q03 (Nat.le_refl _)
  clear own2 own3 gr2 gr3 hv3 hgb c0 b2
  have c0 := HB3.out.c0
  have r0 := HB3.out.r0
  have r1 := HB3.out.r1
  have f0 := HB3.out.f0
  have f1 := HB3.out.f1
  have hlt3 := HB3.out.lt
  have hlt0 : w.heap.size < w3.heap.size := by omega
  go_wp2_with fail
  go_region_held3 (fun w' => w'.cell? ⟨w.heap.size, 0, none⟩ = some (.slice A ks.length c))
    (first
      | go_keep
      | exact (p6.cell (p := ⟨w.heap.size, 0, none⟩) hlt0).trans c0
      | exact (World.cell?_setCell_far _ _ _ _ (by simp)).trans ((World.cell?_setCell_far _ _ _ _ (by simp)).trans ((p6.cell (p := ⟨w.heap.size, 0, none⟩) hlt0).trans c0)))
    (first
      | (go_at_call 59; refine (refLay_any _ _ _ (ks ++ [key]) _ HN.out.symm (by exact HK3.out) (by rw [HN.out]; omega) HSz.out).mono ?_; rintro e w6 ⟨gl, rfl, hgl, hO, q6⟩; have HO := Lib.hid hO; clear hO; rw [HN.out]; have p6 := (Q.refl w3).drew.trans q6; have HB6 := Lib.hid (HB3.out.q p6); have r0' := HB6.out.r0; have r1' := HB6.out.r1; have f0' := HB6.out.f0; have f1' := HB6.out.f1))
  have hg3 : g < w3.heap.size := (Ho3.out.lt g rfl).2
  go_wp2_with fail
  obtain ⟨y0, y1, yq⟩ := set_two (w := w) (u := .slice (some ⟨g, 0, none⟩) (ks.length + 1) cap) (v := .slice (some ⟨gl, 0, none⟩) (sizeN (ks.length + 1)) (sizeN (ks.length + 1))) r0' r1'
  have hz : ((w6.setCell ⟨w.heap.size + 1, 0, none⟩ (.slice (some ⟨g, 0, none⟩) (ks.length + 1) cap)).setCell ⟨w.heap.size + 1, 1, none⟩ (.slice (some ⟨gl, 0, none⟩) (sizeN (ks.length + 1)) (sizeN (ks.length + 1)))).heap.size = w6.heap.size := by simp [World.setCell]
  have ho : ∀ p : Addr, p.block ≠ w.heap.size + 1 → ((w6.setCell ⟨w.heap.size + 1, 0, none⟩ (.slice (some ⟨g, 0, none⟩) (ks.length + 1) cap)).setCell ⟨w.heap.size + 1, 1, none⟩ (.slice (some ⟨gl, 0, none⟩) (sizeN (ks.length + 1)) (sizeN (ks.length + 1)))).cell? p = w6.cell? p := fun p hp => set_two_other _ _ _ _ _ hp
  have qW := yq (q03.trans p6)
  have hgl' : w3.heap.size ≤ gl := hgl
  refine bodyPost_ret (v := .tuple #[.agg #[.slice (some ⟨g, 0, none⟩) (ks.length + 1) cap, .slice (some ⟨gl, 0, none⟩) (sizeN (ks.length + 1)) (sizeN (ks.length + 1))], .int .i64 ks.length, .bool true]) (by simp [results, Try.f33, go_sem, y0, y1]) rfl
    ⟨some ⟨g, 0, none⟩, cap, some ⟨gl, 0, none⟩, sizeN (ks.length + 1), by rw [layI_length, HN.out], ?_, ?_, qW⟩
  · exact own_keysP Ho3.out HvV.out (fun p hp => (ho p (by omega)).trans (p6.cell (by omega))) qW (by rw [hz]; exact p6.size) (HP.out g (by have := q01.size; omega))
  · intro _
    refine ⟨_, rfl, HP.out gl (by have := q03.size; omega), by rw [hz]; exact HO.out.1, fun i x hx => ?_⟩
    rw [add_zero_head, ho _ (by show gl ≠ _; omega)]
    exact (HO.out.2 i x hx).1

set_option maxRecDepth 100000 in
set_option maxHeartbeats 1000000 in
theorem refPutP_old (P : Nat → Prop) (A S E : Option Addr) (c d ce : Nat) (ks : List (List Int)) (sl key : List Int) (w : World) (hkP : KeysP w P A ks) (hSP : IntsP w P S sl) (he : Ints w w.heap.size E key)
    (hs : ∀ k ∈ ks, k.length ≤ maxLen) (hl : ks.length ≤ 5000) (p : Int) (hat : atI ks key = p) (hp : 0 ≤ p) :
    Calls Try.prog 33 #[.agg #[.slice A ks.length c, .slice S sl.length d], .slice E key.length ce] w (PutPostP P ks sl p false w) := by
  have hk := hkP.keys
  have q0 := ((Q.refl w).alloc (Obj.cells #[Value.slice A ks.length c, Value.slice S sl.length d] 26)).alloc (Obj.cells #[Value.slice none 0 0, Value.slice none 0 0] 26)
  have Hk := Lib.hid ((hk.q (Nat.le_refl _) q0).more q0.size)
  have He := Lib.hid ((he.q (Nat.le_refl _) q0).more q0.size)
  have Hkw := Lib.hid hkP
  have HSw := Lib.hid hSP
  have Hs := Lib.hid hs
  have Hat := Lib.hid hat
  have HB := Lib.hid (TwoB.new w (Value.slice A ks.length c) (Value.slice S sl.length d) (Value.slice none 0 0) (Value.slice none 0 0) 26 26)
  clear hk hkP hSP he hs hat
  go_enter Try.func33, Try.ntmps33
  go_wp2_with fail
  generalize (w.alloc (Obj.cells #[Value.slice A ks.length c, Value.slice S sl.length d] 26)).alloc (Obj.cells #[Value.slice none 0 0, Value.slice none 0 0] 26) = W0 at *
  refine (refAt_any _ _ _ _ _ _ ks key _ rfl rfl Hk.out He.out (by unfold maxLen; omega) Hs.out).mono ?_
  rintro e w1 ⟨rfl, hd1⟩
  have q1 := Q.of_drewN hd1
  rw [Hat.out]
  have HB1 := Lib.hid (HB.out.q q1)
  have c0 := HB1.out.c0
  have c1 := HB1.out.c1
  have r0 := HB1.out.r0
  have r1 := HB1.out.r1
  have f0 := HB1.out.f0
  have f1 := HB1.out.f1
  clear hd1
  go_wp2_with fail
  obtain ⟨y0, y1, yq⟩ := set_two (w := w) (u := .slice A ks.length c) (v := .slice S sl.length d) r0 r1
  have qW := yq (q0.trans q1)
  refine bodyPost_ret (v := .tuple #[.agg #[.slice A ks.length c, .slice S sl.length d], .int .i64 p, .bool false]) (by simp [results, Try.f33, go_sem, y0, y1]) rfl
    ⟨A, c, S, d, rfl, Hkw.out.q qW, HSw.out.q qW, qW⟩
theorem refPutP_any (P : Nat → Prop) (A S E : Option Addr) (c d ce : Nat) (ks : List (List Int)) (key : List Int) (w : World) (hk : KeysP w P A ks) (hS : IntsP w P S (layI ks)) (he : IntsP w P E key) (hP : ∀ b, w.heap.size ≤ b → P b)
    (hs : ∀ k ∈ ks, k.length ≤ maxLen) (hkl : key.length ≤ 1000) (hl : ks.length ≤ 5000) (hce : key.length ≤ ce) :
    Calls Try.prog 33 #[.agg #[.slice A ks.length c, .slice S (layI ks).length d], .slice E key.length ce] w (PutPostP P (putL ks key) (layI (putL ks key)) (placeI ks key) (newB ks key) w) := by
  rcases atI_cases ks key with ⟨h1, h2⟩ | ⟨i, h1, h2⟩
  · have e1 : putL ks key = ks ++ [key] := by unfold putL; rw [if_pos (by omega)]
    have e2 : placeI ks key = (ks.length : Int) := by unfold placeI; rw [if_pos (by omega)]
    have e3 : newB ks key = true := by unfold newB; exact decide_eq_true (by omega)
    rw [e1, e2, e3]
    exact refPutP_new P A S E c d ce ks (layI ks) key w hk he hP hs hkl hl hce h1
  · have e1 : putL ks key = ks := by unfold putL; rw [if_neg (by omega)]
    have e2 : placeI ks key = (i : Int) := by unfold placeI; rw [if_neg (by omega)]; exact h2
    have e3 : newB ks key = false := by unfold newB; exact decide_eq_false (by omega)
    rw [e1, e2, e3]
    exact refPutP_old P A S E c d ce ks (layI ks) key w hk hS he.ints hs hl _ h2 (by omega)
/-- which blocks: the old ones, the key's, and the call's own -/
def Kind (lo gk hi b : Nat) : Prop := b < lo ∨ b = gk ∨ hi ≤ b
theorem refPut_at (lo gk : Nat) (A S : Option Addr) (n c m d ke ce : Nat) (ks : List (List Int)) (key : List Int) (u : World) (hn : n = ks.length) (hm : m = (layI ks).length) (hke : ke = key.length) (hk : Keys u lo A ks) (hS : Ints u lo S (layI ks)) (hlo : lo ≤ u.heap.size) (hg : OwnI u gk key)
    (hs : ∀ k ∈ ks, k.length ≤ maxLen) (hkl : key.length ≤ 1000) (hl : ks.length ≤ 5000) (hce : key.length ≤ ce) :
    Calls Try.prog 33 #[.agg #[.slice A n c, .slice S m d], .slice (some ⟨gk, 0, none⟩) ke ce] u (PutPostP (Kind lo gk u.heap.size) (putL ks key) (layI (putL ks key)) (placeI ks key) (newB ks key) u) := by
  subst hn hm hke
  exact refPutP_any _ A S _ c d ce ks key u (hk.p hlo fun b hb => .inl hb) (hS.p hlo fun b hb => .inl hb) (fun _ => ⟨_, rfl, .inr (.inl rfl), hg.1, fun i x hx => by rw [add_zero_head]; exact (hg.2 i x hx).1⟩) (fun b hb => .inr (.inr hb)) hs hkl hl hce
end Go.Proofs.Ytgnbempkobgeiaa.Hs
