/-
  Contract of the document's Put.
-/
import Derived.Test.YtgnbempkobgeiaaHashY
import Derived.Deep.RegionHeld3
namespace Go.Proofs.Ytgnbempkobgeiaa.Hs
open Go.RowKit Kit

/-- the keys of a row of the call's own, each where it was -/
theorem own_keys {w w5 W : World} {base g n cap : Nat} {ks : List (List Int)} {vs : List Value} (own : w5.ownsRow base 24 1 (.slice (some ⟨g, 0, none⟩) n cap) n vs) (hv : ∀ (i : Nat) (k : List Int), ks[i]? = some k → ∃ a c, k.length ≤ c ∧ vs[i]? = some (Value.slice a k.length c) ∧ Ints w w.heap.size a k)
    (hW : ∀ p : Addr, p.block = g → W.cell? p = w5.cell? p) (q : Q w W) (hB : w5.heap.size ≤ W.heap.size) : Keys W W.heap.size (some ⟨g, 0, none⟩) ks := fun _ => by
  refine ⟨_, rfl, Nat.lt_of_lt_of_le (own.lt g rfl).2 hB, fun i k hk => ?_⟩
  obtain ⟨a, c, hle, e, hi⟩ := hv i k hk
  refine ⟨a, c, hle, ?_, (hi.q (Nat.le_refl _) q).more q.size⟩
  rw [hW _ (by rw [add_block])]
  exact own.cells (g := g) rfl i _ e

set_option maxRecDepth 100000 in
set_option maxHeartbeats 1000000 in
theorem refPut_new (A S E : Option Addr) (c d ce : Nat) (ks : List (List Int)) (sl key : List Int) (w : World) (hk : Keys w w.heap.size A ks) (he : Ints w w.heap.size E key)
    (hs : ∀ k ∈ ks, k.length ≤ maxLen) (hkl : key.length ≤ 1000) (hl : ks.length ≤ 5000) (hce : key.length ≤ ce) (hat : atI ks key = -1) :
    Calls Try.prog 33 #[.agg #[.slice A ks.length c, .slice S sl.length d], .slice E key.length ce] w (PutPost (ks ++ [key]) (layI (ks ++ [key])) ks.length true w) := by
  obtain ⟨V, hV, sV, vV⟩ := hk.vals
  have H1 := Lib.hid (vals_one hV vV)
  have q0 := ((Q.refl w).alloc (Obj.cells #[Value.slice A ks.length c, Value.slice S sl.length d] 26)).alloc (Obj.cells #[Value.slice none 0 0, Value.slice none 0 0] 26)
  have Hk := Lib.hid ((hk.q (Nat.le_refl _) q0).more q0.size)
  have He := Lib.hid ((he.q (Nat.le_refl _) q0).more q0.size)
  have Hew := Lib.hid he
  have HsV := Lib.hid sV
  have HvV : Hid (∀ (i : Nat) (k : List Int), (ks ++ [key])[i]? = some k → ∃ a c, k.length ≤ c ∧ (V ++ [Value.slice E key.length ce])[i]? = some (Value.slice a k.length c) ∧ Ints w w.heap.size a k) :=
    vals_append (vs' := [Value.slice E key.length ce]) (ks' := [key]) hV vV (fun i k hk => by
      match i, hk with
      | 0, hk =>
        obtain rfl : key = k := by simpa using hk
        exact ⟨E, ce, hce, rfl, he⟩)
  have HVl := Lib.hid hV
  have Hs := Lib.hid hs
  have Hat := Lib.hid hat
  have HN : Hid ((ks ++ [key]).length = ks.length + 1) := Lib.hid (by simp)
  have HSz : Hid (∀ k ∈ ks ++ [key], k.length ≤ maxLen) := fun k hk => by
    rw [List.mem_append, List.mem_singleton] at hk
    rcases hk with h | rfl
    · exact Hs.out k h
    · unfold maxLen; omega
  have HB := Lib.hid (TwoB.new w (Value.slice A ks.length c) (Value.slice S sl.length d) (Value.slice none 0 0) (Value.slice none 0 0) 26 26)
  obtain ⟨i0, hi, hz0, hz1, hz2⟩ := info_parts sliceInfo
  have Hi := Lib.hid hi
  have Hz0 := Lib.hid hz0
  have Hz1 := Lib.hid hz1
  have Hz2 := Lib.hid hz2
  clear hi hz0 hz1 hz2 hk he hs hat hV sV vV
  go_enter Try.func33, Try.ntmps33
  go_wp2_with fail
  generalize (w.alloc (Obj.cells #[Value.slice A ks.length c, Value.slice S sl.length d] 26)).alloc (Obj.cells #[Value.slice none 0 0, Value.slice none 0 0] 26) = W0 at *
  refine (refAt_any _ _ _ _ _ _ ks key _ rfl rfl Hk.out He.out (by unfold maxLen; omega) Hs.out).mono ?_
  rintro e w1 ⟨rfl, hd1⟩
  have q1 := Q.of_drewN hd1
  rw [Hat.out]
  have HB1 := Lib.hid (HB.out.q q1)
  have c0 := (HB1.out.q ((Q.refl w1).alloc (Obj.cells #[] 24))).c0
  have q01 := q0.trans q1
  have hw1 := HB1.out.lt
  have Hsrc : Hid (Src (w1.alloc (Obj.cells #[] 24)) A V) := (HsV.out.keep (q01.alloc (Obj.cells #[] 24))).src
  have Ho := Lib.hid (own_empty (base := w1.heap.size) (e := 24) (size := 1) (Nat.le_refl _) (heap_alloc_new w1 (Obj.cells #[] 24)))
  clear hd1
  go_wp2_with (first
    | (at_builtin; refine wpList_append_src _ rfl (.tmp 17) (.tmp 19) _ rfl w1.heap.size 24 i0 _ 1 24 Try.underlying23 Hi.out Hz0.out Hz1.out Hz2.out rfl (by omega) (.slice (some ⟨w1.heap.size, 0, none⟩) 0 0) 0 [] rfl Ho.out A ks.length c V rfl (by rw [HVl.out]; omega) Hsrc.out H1.out (by unfold maxLen; omega) (by omega) (by simp) ?_; intro v2 w2 own2 gr2 _)
    | (at_builtin; refine wpList_append_src _ rfl (.tmp 20) (.tmp 22) _ rfl w1.heap.size 24 i0 _ 1 24 Try.underlying23 Hi.out Hz0.out Hz1.out Hz2.out rfl (by omega) v2 (0 + ks.length) ([] ++ V) rfl (own2.alloc _) (some ⟨w2.heap.size, 0, none⟩) 1 1 [.slice E key.length ce] rfl rfl (src_block (cs := #[.slice E key.length ce]) (t := 24) (fr := (0, 0)) (heap_alloc_new w2 _)) (by simp [Value.oneCell']) (by unfold maxLen; omega) (by omega) (by have := gr2.size; simp at this ⊢; omega) ?_; intro v3 w3 own3 gr3 _))
  have b2 : Below w1.heap.size w1 w2 := ((Q.refl w1).alloc (Obj.cells #[] 24)).grown gr2 (by simp) (by simp [Value.ownBlock])
  have b3 : Q w1 w3 := (b2.alloc b2.size (Obj.cells #[.slice E key.length ce] 24)).grown gr3 (by have := b2.size; simp; omega) (fun k hk => (own2.lt k hk).1)
  rw [Nat.zero_add, List.nil_append] at own3
  obtain ⟨g, cap, hv3, hgb⟩ := own3.form (by omega)
  rw [hv3] at own3
  rw [hv3]
  have q03 := q01.trans b3
  have HB3 := Lib.hid (HB1.out.q b3)
  have hg1 : w1.heap.size ≤ g := (own3.lt g rfl).1
  have Ho3 := Lib.hid own3
  have HK3 : Hid (Keys w3 w3.heap.size (some ⟨g, 0, none⟩) (ks ++ [key])) := own_keys Ho3.out HvV.out (fun _ _ => rfl) q03 (Nat.le_refl _)
  clear own2 own3 gr2 gr3 hv3 hgb c0 b2
  have c0 := HB3.out.c0
  have r0 := HB3.out.r0
  have r1 := HB3.out.r1
  have f0 := HB3.out.f0
  have f1 := HB3.out.f1
  have hlt3 := HB3.out.lt
  have hlt0 : w.heap.size < w3.heap.size := by omega
  go_wp2_with fail
  go_region_held3 (fun w' => w'.cell? ⟨w.heap.size, 0, none⟩ = some (.slice A ks.length c))
    (first
      | go_keep
      | exact (p6.cell (p := ⟨w.heap.size, 0, none⟩) hlt0).trans c0
      | exact (World.cell?_setCell_far _ _ _ _ (by simp)).trans ((World.cell?_setCell_far _ _ _ _ (by simp)).trans ((p6.cell (p := ⟨w.heap.size, 0, none⟩) hlt0).trans c0)))
    (first
      | (go_at_call 59; refine (refLay_any _ _ _ (ks ++ [key]) _ HN.out.symm (by exact HK3.out) (by rw [HN.out]; omega) HSz.out).mono ?_; rintro e w6 ⟨gl, rfl, hgl, hO, q6⟩; have HO := Lib.hid hO; clear hO; rw [HN.out]; have p6 := (Q.refl w3).drew.trans q6; have HB6 := Lib.hid (HB3.out.q p6); have r0' := HB6.out.r0; have r1' := HB6.out.r1; have f0' := HB6.out.f0; have f1' := HB6.out.f1))
  have hg3 : g < w3.heap.size := (Ho3.out.lt g rfl).2
  go_wp2_with fail
  obtain ⟨y0, y1, yq⟩ := set_two (w := w) (u := .slice (some ⟨g, 0, none⟩) (ks.length + 1) cap) (v := .slice (some ⟨gl, 0, none⟩) (sizeN (ks.length + 1)) (sizeN (ks.length + 1))) r0' r1'
  have hz : ((w6.setCell ⟨w.heap.size + 1, 0, none⟩ (.slice (some ⟨g, 0, none⟩) (ks.length + 1) cap)).setCell ⟨w.heap.size + 1, 1, none⟩ (.slice (some ⟨gl, 0, none⟩) (sizeN (ks.length + 1)) (sizeN (ks.length + 1)))).heap.size = w6.heap.size := by simp [World.setCell]
  have ho : ∀ p : Addr, p.block ≠ w.heap.size + 1 → ((w6.setCell ⟨w.heap.size + 1, 0, none⟩ (.slice (some ⟨g, 0, none⟩) (ks.length + 1) cap)).setCell ⟨w.heap.size + 1, 1, none⟩ (.slice (some ⟨gl, 0, none⟩) (sizeN (ks.length + 1)) (sizeN (ks.length + 1)))).cell? p = w6.cell? p := fun p hp => set_two_other _ _ _ _ _ hp
  have qW := yq (q03.trans p6)
  have hgl' : w3.heap.size ≤ gl := hgl
  refine bodyPost_ret (v := .tuple #[.agg #[.slice (some ⟨g, 0, none⟩) (ks.length + 1) cap, .slice (some ⟨gl, 0, none⟩) (sizeN (ks.length + 1)) (sizeN (ks.length + 1))], .int .i64 ks.length, .bool true]) (by simp [results, Try.f33, go_sem, y0, y1]) rfl
    ⟨some ⟨g, 0, none⟩, cap, some ⟨gl, 0, none⟩, sizeN (ks.length + 1), by rw [layI_length, HN.out], ?_, ?_, qW⟩
  · exact own_keys Ho3.out HvV.out (fun p hp => (ho p (by omega)).trans (p6.cell (by omega))) qW (by rw [hz]; exact p6.size)
  · intro _
    refine ⟨_, rfl, by rw [hz]; exact HO.out.1, fun i x hx => ?_⟩
    rw [add_zero_head, ho _ (by show gl ≠ _; omega)]
    exact (HO.out.2 i x hx).1

set_option maxRecDepth 100000 in
set_option maxHeartbeats 1000000 in
theorem refPut_old (A S E : Option Addr) (c d ce : Nat) (ks : List (List Int)) (sl key : List Int) (w : World) (hk : Keys w w.heap.size A ks) (hS : Ints w w.heap.size S sl) (he : Ints w w.heap.size E key)
    (hs : ∀ k ∈ ks, k.length ≤ maxLen) (hl : ks.length ≤ 5000) (p : Int) (hat : atI ks key = p) (hp : 0 ≤ p) :
    Calls Try.prog 33 #[.agg #[.slice A ks.length c, .slice S sl.length d], .slice E key.length ce] w (PutPost ks sl p false w) := by
  have q0 := ((Q.refl w).alloc (Obj.cells #[Value.slice A ks.length c, Value.slice S sl.length d] 26)).alloc (Obj.cells #[Value.slice none 0 0, Value.slice none 0 0] 26)
  have Hk := Lib.hid ((hk.q (Nat.le_refl _) q0).more q0.size)
  have He := Lib.hid ((he.q (Nat.le_refl _) q0).more q0.size)
  have Hkw := Lib.hid hk
  have HSw := Lib.hid hS
  have Hs := Lib.hid hs
  have Hat := Lib.hid hat
  have HB := Lib.hid (TwoB.new w (Value.slice A ks.length c) (Value.slice S sl.length d) (Value.slice none 0 0) (Value.slice none 0 0) 26 26)
  clear hk hS he hs hat
  go_enter Try.func33, Try.ntmps33
  go_wp2_with fail
  generalize (w.alloc (Obj.cells #[Value.slice A ks.length c, Value.slice S sl.length d] 26)).alloc (Obj.cells #[Value.slice none 0 0, Value.slice none 0 0] 26) = W0 at *
  refine (refAt_any _ _ _ _ _ _ ks key _ rfl rfl Hk.out He.out (by unfold maxLen; omega) Hs.out).mono ?_
  rintro e w1 ⟨rfl, hd1⟩
  have q1 := Q.of_drewN hd1
  rw [Hat.out]
  have HB1 := Lib.hid (HB.out.q q1)
  have c0 := HB1.out.c0
  have c1 := HB1.out.c1
  have r0 := HB1.out.r0
  have r1 := HB1.out.r1
  have f0 := HB1.out.f0
  have f1 := HB1.out.f1
  clear hd1
  go_wp2_with fail
  obtain ⟨y0, y1, yq⟩ := set_two (w := w) (u := .slice A ks.length c) (v := .slice S sl.length d) r0 r1
  have qW := yq (q0.trans q1)
  refine bodyPost_ret (v := .tuple #[.agg #[.slice A ks.length c, .slice S sl.length d], .int .i64 p, .bool false]) (by simp [results, Try.f33, go_sem, y0, y1]) rfl
    ⟨A, c, S, d, rfl, (Hkw.out.q (Nat.le_refl _) qW).more qW.size, (HSw.out.q (Nat.le_refl _) qW).more qW.size, qW⟩
theorem refPut_any (A S E : Option Addr) (c d ce : Nat) (ks : List (List Int)) (key : List Int) (w : World) (hk : Keys w w.heap.size A ks) (hS : Ints w w.heap.size S (layI ks)) (he : Ints w w.heap.size E key)
    (hs : ∀ k ∈ ks, k.length ≤ maxLen) (hkl : key.length ≤ 1000) (hl : ks.length ≤ 5000) (hce : key.length ≤ ce) :
    Calls Try.prog 33 #[.agg #[.slice A ks.length c, .slice S (layI ks).length d], .slice E key.length ce] w (PutPost (putL ks key) (layI (putL ks key)) (placeI ks key) (newB ks key) w) := by
  rcases atI_cases ks key with ⟨h1, h2⟩ | ⟨i, h1, h2⟩
  · have e1 : putL ks key = ks ++ [key] := by unfold putL; rw [if_pos (by omega)]
    have e2 : placeI ks key = (ks.length : Int) := by unfold placeI; rw [if_pos (by omega)]
    have e3 : newB ks key = true := by unfold newB; exact decide_eq_true (by omega)
    rw [e1, e2, e3]
    exact refPut_new A S E c d ce ks (layI ks) key w hk he hs hkl hl hce h1
  · have e1 : putL ks key = ks := by unfold putL; rw [if_neg (by omega)]
    have e2 : placeI ks key = (i : Int) := by unfold placeI; rw [if_neg (by omega)]; exact h2
    have e3 : newB ks key = false := by unfold newB; exact decide_eq_false (by omega)
    rw [e1, e2, e3]
    exact refPut_old A S E c d ce ks (layI ks) key w hk hS he hs hl _ h2 (by omega)
end Go.Proofs.Ytgnbempkobgeiaa.Hs
