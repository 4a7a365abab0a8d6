/-
  Contract of hash.Put.
-/
import Derived.Test.YtgnbempkobgeiaaHashG
namespace Go.Proofs.Ytgnbempkobgeiaa.Hs
open Go.RowKit Kit

def PutPost (ks : List (List Int)) (sl : List Int) (place : Int) (new : Bool) (w : World) (e : Ending) (w' : World) : Prop :=
  ∃ A c S d, e = .returned (.tuple #[.agg #[.slice A ks.length c, .slice S sl.length d], .int .i64 place, .bool new]) ∧ Keys w' w'.heap.size A ks ∧ Ints w' w'.heap.size S sl ∧ Q w w'

/-- the two blocks that a call lays at its head: the table, and the result -/
structure TwoB (w W : World) (a b x y : Value) : Prop where
  c0 : W.cell? ⟨w.heap.size, 0, none⟩ = some a
  c1 : W.cell? ⟨w.heap.size, 1, none⟩ = some b
  r0 : W.cell? ⟨w.heap.size + 1, 0, none⟩ = some x
  r1 : W.cell? ⟨w.heap.size + 1, 1, none⟩ = some y
  f0 : W.frozen? ⟨w.heap.size + 1, 0, none⟩ = false
  f1 : W.frozen? ⟨w.heap.size + 1, 1, none⟩ = false
  lt : w.heap.size + 1 < W.heap.size
theorem TwoB.q {w W W' : World} {a b x y : Value} (h : TwoB w W a b x y) (q : Q W W') : TwoB w W' a b x y :=
  have l0 : w.heap.size < W.heap.size := by have := h.lt; omega
  ⟨(q.cell (p := ⟨w.heap.size, 0, none⟩) l0).trans h.c0, (q.cell (p := ⟨w.heap.size, 1, none⟩) l0).trans h.c1, (q.cell (p := ⟨w.heap.size + 1, 0, none⟩) h.lt).trans h.r0, (q.cell (p := ⟨w.heap.size + 1, 1, none⟩) h.lt).trans h.r1,
   (q.frozen (p := ⟨w.heap.size + 1, 0, none⟩) h.lt).trans h.f0, (q.frozen (p := ⟨w.heap.size + 1, 1, none⟩) h.lt).trans h.f1, Nat.lt_of_lt_of_le h.lt q.size⟩
theorem TwoB.new (w : World) (a b x y : Value) (t t' : TypeId) : TwoB w ((w.alloc (.cells #[a, b] t)).alloc (.cells #[x, y] t')) a b x y := by
  refine ⟨by simp, by simp, by simp, by simp, by simp, by simp, by simp⟩
theorem set_two {w W : World} {x y u v : Value} (r0 : W.cell? ⟨w.heap.size + 1, 0, none⟩ = some x) (r1 : W.cell? ⟨w.heap.size + 1, 1, none⟩ = some y) :
    ((W.setCell ⟨w.heap.size + 1, 0, none⟩ u).setCell ⟨w.heap.size + 1, 1, none⟩ v).cell? ⟨w.heap.size + 1, 0, none⟩ = some u ∧ ((W.setCell ⟨w.heap.size + 1, 0, none⟩ u).setCell ⟨w.heap.size + 1, 1, none⟩ v).cell? ⟨w.heap.size + 1, 1, none⟩ = some v ∧
    (Q w W → Q w ((W.setCell ⟨w.heap.size + 1, 0, none⟩ u).setCell ⟨w.heap.size + 1, 1, none⟩ v)) := by
  refine ⟨?_, ?_, fun h => (h.setCell (p := ⟨w.heap.size + 1, 0, none⟩) (by show _ ≤ w.heap.size + 1; omega) _).setCell (p := ⟨w.heap.size + 1, 1, none⟩) (by show _ ≤ w.heap.size + 1; omega) _⟩
  · have := World.cell?_setCell_other (w := W.setCell ⟨w.heap.size + 1, 0, none⟩ u) (a := ⟨w.heap.size + 1, 1, none⟩) (b := ⟨w.heap.size + 1, 0, none⟩) (v := v) (by intro h; injection h with _ h; cases h)
    exact this.trans (World.cell?_setCell_same' _ _ _ (by rw [r0]; rfl))
  · have := World.cell?_setCell_other (w := W) (a := ⟨w.heap.size + 1, 0, none⟩) (b := ⟨w.heap.size + 1, 1, none⟩) (v := u) (by intro h; injection h with _ h; cases h)
    exact World.cell?_setCell_same' _ _ _ (by rw [this, r1]; rfl)
theorem TwoB.set {w W : World} {a b x y : Value} (h : TwoB w W a b x y) {g i : Nat} (hg : w.heap.size + 1 < g) (v : Value) : TwoB w (W.setCell ⟨g, i, none⟩ v) a b x y :=
  ⟨(World.cell?_setCell_far _ _ _ _ (by show g ≠ w.heap.size; omega)).trans h.c0, (World.cell?_setCell_far _ _ _ _ (by show g ≠ w.heap.size; omega)).trans h.c1, (World.cell?_setCell_far _ _ _ _ (by show g ≠ w.heap.size + 1; omega)).trans h.r0, (World.cell?_setCell_far _ _ _ _ (by show g ≠ w.heap.size + 1; omega)).trans h.r1,
   by rw [World.frozen?_setCell]; exact h.f0, by rw [World.frozen?_setCell]; exact h.f1, by have := h.lt; simpa [World.setCell] using this⟩
theorem put_close {w w3 w5 w7 W : World} {A : Option Addr} {c g d n m : Nat} {ks : List (List Int)} {sl : List Int} {u v : Value} (hn : n = ks.length) (hm : m = sl.length) (hu : u = .slice A n c) (hv : v = .slice (some ⟨g, 0, none⟩) m d)
    (hW : W = ((w7.setCell ⟨w.heap.size + 1, 0, none⟩ u).setCell ⟨w.heap.size + 1, 1, none⟩ v).drew) (hlt : w.heap.size + 1 < w3.heap.size) (hg : w.heap.size + 1 < g) (hO : OwnI w7 g sl) (h57 : ∀ p : Addr, w3.heap.size < p.block + 1 → p.block < w5.heap.size → w7.cell? p = w5.cell? p) (hz : w5.heap.size ≤ w7.heap.size)
    (hK : ∀ W : World, (∀ p : Addr, w3.heap.size ≤ p.block → p.block < w5.heap.size → W.cell? p = w5.cell? p) → Keys W w5.heap.size A ks) (q : Q w w7) (place : Int) :
    PutPost ks sl place true w (.returned (.tuple #[.agg #[u, v], .int .i64 place, .bool true])) W := by
  subst hW hu hv hn hm
  have hs : (((w7.setCell ⟨w.heap.size + 1, 0, none⟩ (.slice A ks.length c)).setCell ⟨w.heap.size + 1, 1, none⟩ (.slice (some ⟨g, 0, none⟩) sl.length d)).drew).heap.size = w7.heap.size := by show ((w7.setCell _ _).setCell _ _).heap.size = _; simp [World.setCell]
  have ho : ∀ p : Addr, p.block ≠ w.heap.size + 1 → (((w7.setCell ⟨w.heap.size + 1, 0, none⟩ (.slice A ks.length c)).setCell ⟨w.heap.size + 1, 1, none⟩ (.slice (some ⟨g, 0, none⟩) sl.length d)).drew).cell? p = w7.cell? p := fun p hp => by
    show ((w7.setCell _ _).setCell _ _).cell? p = _
    exact (World.cell?_setCell_far _ _ _ _ (fun e => hp e.symm)).trans (World.cell?_setCell_far _ _ _ _ (fun e => hp e.symm))
  refine ⟨A, c, _, d, rfl, ?_, ?_, ?_⟩
  · rw [hs]
    exact (hK _ fun p h1 h2 => (ho p (by omega)).trans (h57 p (by omega) h2)).more hz
  · rw [hs]
    intro _
    refine ⟨_, rfl, hO.1, fun i x hx => ?_⟩
    rw [add_zero_head, ho _ (by show g ≠ _; omega)]
    exact (hO.2 i x hx).1
  · exact ((q.setCell (p := ⟨w.heap.size + 1, 0, none⟩) (by show _ ≤ w.heap.size + 1; omega) _).setCell (p := ⟨w.heap.size + 1, 1, none⟩) (by show _ ≤ w.heap.size + 1; omega) _).drew
theorem size1_any (n : Nat) (w : World) (hn : n < 1000000) : Calls Try.prog 58 #[.int .i64 ((n : Int) + 1)] w fun e w' => e = .returned (.int .i64 (sizeN (n + 1))) ∧ w = w' := by
  have := size_any (n + 1) w (by omega)
  rwa [Int.natCast_add] at this
theorem set_two_other (W : World) (B : Nat) (u v : Value) (p : Addr) (hp : p.block ≠ B) : ((W.setCell ⟨B, 0, none⟩ u).setCell ⟨B, 1, none⟩ v).cell? p = W.cell? p :=
  (World.cell?_setCell_far _ _ _ _ (fun e => hp e.symm)).trans (World.cell?_setCell_far _ _ _ _ (fun e => hp e.symm))
theorem clone_ints {w w' W : World} {S : Option Addr} {sl : List Int} {lo B : Nat} (h : 0 < sl.length → ∃ g, S = some ⟨g, 0, none⟩ ∧ lo ≤ g ∧ OwnI w g sl) (q : Q w w') (hB : w'.heap.size ≤ B) (hW : ∀ p : Addr, lo ≤ p.block → W.cell? p = w'.cell? p) : Ints W B S sl := fun h0 => by
  obtain ⟨g, e, hg, ho⟩ := h h0
  have ho' := ho.q q
  refine ⟨_, e, Nat.lt_of_lt_of_le ho'.1 hB, fun i x hx => ?_⟩
  rw [add_zero_head, hW _ hg]
  exact (ho'.2 i x hx).1

set_option maxRecDepth 100000 in
set_option maxHeartbeats 1000000 in
theorem put_old (A S E : Option Addr) (c d ce : Nat) (ks : List (List Int)) (sl key : List Int) (w : World) (s p : Int) (hk : Keys w w.heap.size A ks) (hS : Ints w w.heap.size S sl) (he : Ints w w.heap.size E key)
    (hs : ∀ k ∈ ks, k.length ≤ maxLen) (hkl : key.length ≤ 1000) (hsl : sl.length ≤ 100000) (hl : ks.length ≤ 5000) (ht : ks.flatten.length ≤ 50000) (hsk : seekI (sameP ks key) sl (hashN key) = (s, p)) (hp : 0 ≤ p) :
    Calls Try.prog 30 #[.agg #[.slice A ks.length c, .slice S sl.length d], .slice E key.length ce] w (PutPost ks sl p false w) := by
  have q0 := ((Q.refl w).alloc (Obj.cells #[Value.slice A ks.length c, Value.slice S sl.length d] 26)).alloc (Obj.cells #[Value.slice none 0 0, Value.slice none 0 0] 26)
  have Hk := Lib.hid ((hk.q (Nat.le_refl _) q0).more q0.size)
  have HS := Lib.hid ((hS.q (Nat.le_refl _) q0).more q0.size)
  have He := Lib.hid ((he.q (Nat.le_refl _) q0).more q0.size)
  have Hs := Lib.hid hs
  have Hsk := Lib.hid hsk
  have HB := Lib.hid (TwoB.new w (Value.slice A ks.length c) (Value.slice S sl.length d) (Value.slice none 0 0) (Value.slice none 0 0) 26 26)
  clear hk hS he hs hsk
  have hkm : key.length ≤ maxLen := by unfold maxLen; omega
  go_enter Try.func30, Try.ntmps30
  go_wp2_with fail
  generalize (w.alloc (Obj.cells #[Value.slice A ks.length c, Value.slice S sl.length d] 26)).alloc (Obj.cells #[Value.slice none 0 0, Value.slice none 0 0] 26) = W0 at *
  have k0 := HB.out.c0
  have k1 := HB.out.c1
  have hlt : w.heap.size < W0.heap.size := by have := HB.out.lt; omega
  go_region_held3 (fun w' => w'.cell? ⟨w.heap.size, 0, none⟩ = some (.slice A ks.length c) ∧ w'.cell? ⟨w.heap.size, 1, none⟩ = some (.slice S sl.length d))
    (first
      | go_keep
      | exact ⟨(p1.cell (p := ⟨w.heap.size, 0, none⟩) hlt).trans k0, (p1.cell (p := ⟨w.heap.size, 1, none⟩) hlt).trans k1⟩
      | exact ⟨((p1.trans q2).cell (p := ⟨w.heap.size, 0, none⟩) hlt).trans k0, ((p1.trans q2).cell (p := ⟨w.heap.size, 1, none⟩) hlt).trans k1⟩)
    (first
      | (go_at_call 55; refine (hashN_any _ _ _ key _ rfl (by exact He.out) hkm).mono ?_; rintro e w' ⟨rfl, rfl⟩)
      | (go_at_call 56; refine (sameAsQ_any _ _ _ _ _ _ ks key _ rfl rfl (by exact Hk.out) (by exact He.out) Hs.out).mono ?_; rintro e w1 ⟨Bk, Be, rfl, q1, hC⟩; have HC := Lib.hid hC; clear hC; have p1 := (Q.refl W0).drew.trans q1)
      | (go_at_call 54; refine (seek_same _ _ _ sl _ (sameP ks key) Bk Be _ rfl (by exact ((HS.out.q (Nat.le_refl _) p1).more p1.size)) (hashN_lt _) (by omega) HC.out).mono ?_; rintro e w2 ⟨rfl, q2⟩; rw [Hsk.out]))
  have q02 := p1.trans q2
  have HB2 := Lib.hid (HB.out.q q02)
  have k1' := HB2.out.c1
  clear k0 k1 q1 q2 p1 HC
  go_wp2_with fail
  refine (clone_any _ _ _ sl _ rfl ((HS.out.q (Nat.le_refl _) q02).more q02.size) hsl).mono ?_
  rintro e w3 ⟨S3, d3, rfl, hS3, q3⟩
  have HS3 := Lib.hid hS3
  have q03 := q02.trans q3
  have HB3 := Lib.hid (HB2.out.q q3)
  have c0 := HB3.out.c0
  clear k1' hS3
  go_wp2_with fail
  refine (copyKeys_any _ _ _ _ _ _ ks [] _ rfl rfl ((Hk.out.q (Nat.le_refl _) q03).more q03.size) (fun h => absurd h (by simp)) (by rw [List.append_nil]; omega) (by rw [List.append_nil]; omega)).mono ?_
  rintro e w4 ⟨A4, c4, rfl, hK4, q4, hcp4⟩
  have Hcp4 := Lib.hid hcp4
  clear hcp4
  rw [List.append_nil] at hK4 ⊢
  have q04 := q03.trans q4
  have HB4 := Lib.hid (HB3.out.q q4)
  have r0 := HB4.out.r0
  have r1 := HB4.out.r1
  have f0 := HB4.out.f0
  have f1 := HB4.out.f1
  have HK4 := Lib.hid hK4
  clear c0 hK4
  go_wp2_with fail
  have hW : ∀ q : Addr, w2.heap.size ≤ q.block → ((w4.setCell ⟨w.heap.size + 1, 0, none⟩ (.slice A4 ks.length c4)).setCell ⟨w.heap.size + 1, 1, none⟩ (.slice S3 sl.length d3)).cell? q = w4.cell? q := fun q hq => set_two_other _ _ _ _ _ (by have := HB2.out.lt; omega)
  obtain ⟨y0, y1, yq⟩ := set_two (w := w) (u := .slice A4 ks.length c4) (v := .slice S3 sl.length d3) r0 r1
  have hz : ((w4.setCell ⟨w.heap.size + 1, 0, none⟩ (.slice A4 ks.length c4)).setCell ⟨w.heap.size + 1, 1, none⟩ (.slice S3 sl.length d3)).heap.size = w4.heap.size := by simp [World.setCell]
  refine bodyPost_ret (v := .tuple #[.agg #[.slice A4 ks.length c4, .slice S3 sl.length d3], .int .i64 p, .bool false]) (by simp [results, Try.f30, go_sem, y0, y1]) rfl
    ⟨A4, c4, S3, d3, rfl, ?_, ?_, yq (q0.trans q04)⟩
  · rw [hz]; exact HK4.out _ fun q hq _ => hW q (by have := q3.size; omega)
  · rw [hz]; exact clone_ints HS3.out q4 (Nat.le_refl _) hW

set_option maxRecDepth 100000 in
set_option maxHeartbeats 1000000 in
theorem put_lay1 (A S E : Option Addr) (c d ce : Nat) (ks : List (List Int)) (sl key : List Int) (w : World) (s p : Int) (hk : Keys w w.heap.size A ks) (hS : Ints w w.heap.size S sl) (he : Ints w w.heap.size E key)
    (hs : ∀ k ∈ ks, k.length ≤ maxLen) (hkl : key.length ≤ 1000) (hsl : sl.length ≤ 100000) (hl : ks.length ≤ 5000) (ht : ks.flatten.length ≤ 50000) (hsk : seekI (sameP ks key) sl (hashN key) = (s, p)) (hce : key.length ≤ ce) (hp : p < 0) (hsn : s < 0) :
    Calls Try.prog 30 #[.agg #[.slice A ks.length c, .slice S sl.length d], .slice E key.length ce] w (PutPost (ks ++ [key]) (layI (ks ++ [key])) ks.length true w) := by
  have q0 := ((Q.refl w).alloc (Obj.cells #[Value.slice A ks.length c, Value.slice S sl.length d] 26)).alloc (Obj.cells #[Value.slice none 0 0, Value.slice none 0 0] 26)
  have Hk := Lib.hid ((hk.q (Nat.le_refl _) q0).more q0.size)
  have HS := Lib.hid ((hS.q (Nat.le_refl _) q0).more q0.size)
  have He := Lib.hid ((he.q (Nat.le_refl _) q0).more q0.size)
  have Hs := Lib.hid hs
  have Hsk := Lib.hid hsk
  have HB := Lib.hid (TwoB.new w (Value.slice A ks.length c) (Value.slice S sl.length d) (Value.slice none 0 0) (Value.slice none 0 0) 26 26)
  clear hk hS he hs hsk
  have hkm : key.length ≤ maxLen := by unfold maxLen; omega
  go_enter Try.func30, Try.ntmps30
  go_wp2_with fail
  generalize (w.alloc (Obj.cells #[Value.slice A ks.length c, Value.slice S sl.length d] 26)).alloc (Obj.cells #[Value.slice none 0 0, Value.slice none 0 0] 26) = W0 at *
  have k0 := HB.out.c0
  have k1 := HB.out.c1
  have hlt : w.heap.size < W0.heap.size := by have := HB.out.lt; omega
  go_region_held3 (fun w' => w'.cell? ⟨w.heap.size, 0, none⟩ = some (.slice A ks.length c) ∧ w'.cell? ⟨w.heap.size, 1, none⟩ = some (.slice S sl.length d))
    (first
      | go_keep
      | exact ⟨(p1.cell (p := ⟨w.heap.size, 0, none⟩) hlt).trans k0, (p1.cell (p := ⟨w.heap.size, 1, none⟩) hlt).trans k1⟩
      | exact ⟨((p1.trans q2).cell (p := ⟨w.heap.size, 0, none⟩) hlt).trans k0, ((p1.trans q2).cell (p := ⟨w.heap.size, 1, none⟩) hlt).trans k1⟩)
    (first
      | (go_at_call 55; refine (hashN_any _ _ _ key _ rfl (by exact He.out) hkm).mono ?_; rintro e w' ⟨rfl, rfl⟩)
      | (go_at_call 56; refine (sameAsQ_any _ _ _ _ _ _ ks key _ rfl rfl (by exact Hk.out) (by exact He.out) Hs.out).mono ?_; rintro e w1 ⟨Bk, Be, rfl, q1, hC⟩; have HC := Lib.hid hC; clear hC; have p1 := (Q.refl W0).drew.trans q1)
      | (go_at_call 54; refine (seek_same _ _ _ sl _ (sameP ks key) Bk Be _ rfl (by exact ((HS.out.q (Nat.le_refl _) p1).more p1.size)) (hashN_lt _) (by omega) HC.out).mono ?_; rintro e w2 ⟨rfl, q2⟩; rw [Hsk.out]))
  have q02 := p1.trans q2
  have HB2 := Lib.hid (HB.out.q q02)
  have k1' := HB2.out.c1
  clear k0 k1 q1 q2 p1 HC
  go_wp2_with fail
  refine (clone_any _ _ _ sl _ rfl ((HS.out.q (Nat.le_refl _) q02).more q02.size) hsl).mono ?_
  rintro e w3 ⟨S3, d3, rfl, hS3, q3⟩
  have HS3 := Lib.hid hS3
  have q03 := q02.trans q3
  have HB3 := Lib.hid (HB2.out.q q3)
  have c0 := HB3.out.c0
  clear k1' hS3
  have Hkey : Hid (∀ W : World, Q W0 W → Keys (W.alloc (.cells #[.slice E key.length ce] 24)) (W.alloc (.cells #[.slice E key.length ce] 24)).heap.size (some ⟨W.heap.size, 0, none⟩) [key]) := fun W hW _ => by
    have q1 := (Q.refl W).alloc (.cells #[.slice E key.length ce] 24)
    refine ⟨_, rfl, by simp, fun i k hk => ?_⟩
    match i, hk with
    | 0, hk =>
      obtain rfl : key = k := by simpa using hk
      have q2 := hW.trans q1
      exact ⟨E, ce, hce, by rw [add_zero_head, cell_of_row _ _ _ _ _ _ (heap_alloc_new W _)]; rfl, (He.out.q (Nat.le_refl _) q2).more q2.size⟩
  have HN : Hid ((ks ++ [key]).length = ks.length + 1) := Lib.hid (by simp)
  have HT : Hid ((ks ++ [key]).flatten.length ≤ 60000) := Lib.hid (by rw [List.flatten_append, List.length_append]; simp only [List.flatten_cons, List.flatten_nil, List.append_nil]; omega)
  have HSz : Hid (∀ k ∈ ks ++ [key], k.length ≤ maxLen) := fun k hk => by
    rw [List.mem_append, List.mem_singleton] at hk
    rcases hk with h | rfl
    · exact Hs.out k h
    · exact hkm
  go_wp2_with fail
  refine (copyKeys_any _ _ _ _ _ _ ks [key] _ rfl rfl ((Hk.out.q (Nat.le_refl _) (q03.alloc _)).more (q03.alloc _).size) (Hkey.out w3 q03) (by rw [HN.out]; omega) (by have := HT.out; omega)).mono ?_
  rintro e w5 ⟨A5, c5, rfl, hK5, q5, hcp5⟩
  have Hcp5 := Lib.hid hcp5
  clear hcp5
  rw [HN.out]
  have q35 := ((Q.refl w3).alloc _).trans q5
  have q05 := q03.trans q35
  have HB5 := Lib.hid (HB3.out.q q35)
  have HK5 := Lib.hid hK5
  have hN := HN.out
  clear c0 hK5 q5

  go_wp2_with fail
  refine (lay_any _ _ _ (ks ++ [key]) _ HN.out.symm (HK5.out w5 (fun _ _ _ => rfl)) (by omega) HSz.out).mono ?_
  rintro e w6 ⟨g, rfl, hg, hO, q6⟩
  have q06 := q05.trans q6
  have HB6 := Lib.hid (HB5.out.q q6)
  have HO := Lib.hid hO
  have r0 := HB6.out.r0
  have r1 := HB6.out.r1
  have f0 := HB6.out.f0
  have f1 := HB6.out.f1
  have c0 := HB6.out.c0
  clear hO
  go_wp2_with fail
  go_region
  all_goals go_wp2_with fail
  obtain ⟨y0, y1, _⟩ := set_two (w := w) (u := .slice A5 (ks.length + 1) c5) (v := .slice (some ⟨g, 0, none⟩) (sizeN (ks.length + 1)) (sizeN (ks.length + 1))) r0 r1
  have hlt3 := HB3.out.lt
  have hz3 := q35.size
  refine bodyPost_ret (v := .tuple #[.agg #[.slice A5 (ks.length + 1) c5, .slice (some ⟨g, 0, none⟩) (sizeN (ks.length + 1)) (sizeN (ks.length + 1))], .int .i64 ks.length, .bool true]) (by simp [results, Try.f30, go_sem, y0, y1]) rfl
    (put_close (w3 := w3.alloc (Obj.cells #[Value.slice E key.length ce] 24)) (w5 := w5) (w7 := w6) HN.out.symm (by rw [layI_length, HN.out]) rfl rfl rfl (by simp; omega) (by omega) HO.out (fun p _ h2 => q6.cell h2) q6.size HK5.out (q0.trans q06) _)

set_option maxRecDepth 100000 in
set_option maxHeartbeats 1000000 in
theorem put_lay2 (A S E : Option Addr) (c d ce : Nat) (ks : List (List Int)) (sl key : List Int) (w : World) (s p : Int) (hk : Keys w w.heap.size A ks) (hS : Ints w w.heap.size S sl) (he : Ints w w.heap.size E key)
    (hs : ∀ k ∈ ks, k.length ≤ maxLen) (hkl : key.length ≤ 1000) (hsl : sl.length ≤ 100000) (hl : ks.length ≤ 5000) (ht : ks.flatten.length ≤ 50000) (hsk : seekI (sameP ks key) sl (hashN key) = (s, p)) (hce : key.length ≤ ce) (hp : p < 0) (hsn : 0 ≤ s) (hq : sl.length ≠ sizeN (ks.length + 1)) :
    Calls Try.prog 30 #[.agg #[.slice A ks.length c, .slice S sl.length d], .slice E key.length ce] w (PutPost (ks ++ [key]) (layI (ks ++ [key])) ks.length true w) := by
  have q0 := ((Q.refl w).alloc (Obj.cells #[Value.slice A ks.length c, Value.slice S sl.length d] 26)).alloc (Obj.cells #[Value.slice none 0 0, Value.slice none 0 0] 26)
  have Hk := Lib.hid ((hk.q (Nat.le_refl _) q0).more q0.size)
  have HS := Lib.hid ((hS.q (Nat.le_refl _) q0).more q0.size)
  have He := Lib.hid ((he.q (Nat.le_refl _) q0).more q0.size)
  have Hs := Lib.hid hs
  have Hsk := Lib.hid hsk
  have HB := Lib.hid (TwoB.new w (Value.slice A ks.length c) (Value.slice S sl.length d) (Value.slice none 0 0) (Value.slice none 0 0) 26 26)
  clear hk hS he hs hsk
  have hkm : key.length ≤ maxLen := by unfold maxLen; omega
  go_enter Try.func30, Try.ntmps30
  go_wp2_with fail
  generalize (w.alloc (Obj.cells #[Value.slice A ks.length c, Value.slice S sl.length d] 26)).alloc (Obj.cells #[Value.slice none 0 0, Value.slice none 0 0] 26) = W0 at *
  have k0 := HB.out.c0
  have k1 := HB.out.c1
  have hlt : w.heap.size < W0.heap.size := by have := HB.out.lt; omega
  go_region_held3 (fun w' => w'.cell? ⟨w.heap.size, 0, none⟩ = some (.slice A ks.length c) ∧ w'.cell? ⟨w.heap.size, 1, none⟩ = some (.slice S sl.length d))
    (first
      | go_keep
      | exact ⟨(p1.cell (p := ⟨w.heap.size, 0, none⟩) hlt).trans k0, (p1.cell (p := ⟨w.heap.size, 1, none⟩) hlt).trans k1⟩
      | exact ⟨((p1.trans q2).cell (p := ⟨w.heap.size, 0, none⟩) hlt).trans k0, ((p1.trans q2).cell (p := ⟨w.heap.size, 1, none⟩) hlt).trans k1⟩)
    (first
      | (go_at_call 55; refine (hashN_any _ _ _ key _ rfl (by exact He.out) hkm).mono ?_; rintro e w' ⟨rfl, rfl⟩)
      | (go_at_call 56; refine (sameAsQ_any _ _ _ _ _ _ ks key _ rfl rfl (by exact Hk.out) (by exact He.out) Hs.out).mono ?_; rintro e w1 ⟨Bk, Be, rfl, q1, hC⟩; have HC := Lib.hid hC; clear hC; have p1 := (Q.refl W0).drew.trans q1)
      | (go_at_call 54; refine (seek_same _ _ _ sl _ (sameP ks key) Bk Be _ rfl (by exact ((HS.out.q (Nat.le_refl _) p1).more p1.size)) (hashN_lt _) (by omega) HC.out).mono ?_; rintro e w2 ⟨rfl, q2⟩; rw [Hsk.out]))
  have q02 := p1.trans q2
  have HB2 := Lib.hid (HB.out.q q02)
  have k1' := HB2.out.c1
  clear k0 k1 q1 q2 p1 HC
  go_wp2_with fail
  refine (clone_any _ _ _ sl _ rfl ((HS.out.q (Nat.le_refl _) q02).more q02.size) hsl).mono ?_
  rintro e w3 ⟨S3, d3, rfl, hS3, q3⟩
  have HS3 := Lib.hid hS3
  have q03 := q02.trans q3
  have HB3 := Lib.hid (HB2.out.q q3)
  have c0 := HB3.out.c0
  clear k1' hS3
  have Hkey : Hid (∀ W : World, Q W0 W → Keys (W.alloc (.cells #[.slice E key.length ce] 24)) (W.alloc (.cells #[.slice E key.length ce] 24)).heap.size (some ⟨W.heap.size, 0, none⟩) [key]) := fun W hW _ => by
    have q1 := (Q.refl W).alloc (.cells #[.slice E key.length ce] 24)
    refine ⟨_, rfl, by simp, fun i k hk => ?_⟩
    match i, hk with
    | 0, hk =>
      obtain rfl : key = k := by simpa using hk
      have q2 := hW.trans q1
      exact ⟨E, ce, hce, by rw [add_zero_head, cell_of_row _ _ _ _ _ _ (heap_alloc_new W _)]; rfl, (He.out.q (Nat.le_refl _) q2).more q2.size⟩
  have HN : Hid ((ks ++ [key]).length = ks.length + 1) := Lib.hid (by simp)
  have HT : Hid ((ks ++ [key]).flatten.length ≤ 60000) := Lib.hid (by rw [List.flatten_append, List.length_append]; simp only [List.flatten_cons, List.flatten_nil, List.append_nil]; omega)
  have HSz : Hid (∀ k ∈ ks ++ [key], k.length ≤ maxLen) := fun k hk => by
    rw [List.mem_append, List.mem_singleton] at hk
    rcases hk with h | rfl
    · exact Hs.out k h
    · exact hkm
  go_wp2_with fail
  refine (copyKeys_any _ _ _ _ _ _ ks [key] _ rfl rfl ((Hk.out.q (Nat.le_refl _) (q03.alloc _)).more (q03.alloc _).size) (Hkey.out w3 q03) (by rw [HN.out]; omega) (by have := HT.out; omega)).mono ?_
  rintro e w5 ⟨A5, c5, rfl, hK5, q5, hcp5⟩
  have Hcp5 := Lib.hid hcp5
  clear hcp5
  rw [HN.out]
  have q35 := ((Q.refl w3).alloc _).trans q5
  have q05 := q03.trans q35
  have HB5 := Lib.hid (HB3.out.q q35)
  have HK5 := Lib.hid hK5
  have hN := HN.out
  clear c0 hK5 q5
  have hne : ((sl.length : Int) != (sizeN (ks.length + 1) : Int)) = true := by simp; omega
  go_wp2_with fail
  refine (size1_any ks.length _ (by omega)).mono ?_
  rintro e w6 ⟨rfl, rfl⟩
  go_wp2_with fail
  refine (lay_any _ _ _ (ks ++ [key]) _ HN.out.symm (HK5.out w5 (fun _ _ _ => rfl)) (by omega) HSz.out).mono ?_
  rintro e w6 ⟨g, rfl, hg, hO, q6⟩
  have q06 := q05.trans q6
  have HB6 := Lib.hid (HB5.out.q q6)
  have HO := Lib.hid hO
  have r0 := HB6.out.r0
  have r1 := HB6.out.r1
  have f0 := HB6.out.f0
  have f1 := HB6.out.f1
  have c0 := HB6.out.c0
  clear hO
  go_wp2_with fail
  go_region
  all_goals go_wp2_with fail
  obtain ⟨y0, y1, _⟩ := set_two (w := w) (u := .slice A5 (ks.length + 1) c5) (v := .slice (some ⟨g, 0, none⟩) (sizeN (ks.length + 1)) (sizeN (ks.length + 1))) r0 r1
  have hlt3 := HB3.out.lt
  have hz3 := q35.size
  refine bodyPost_ret (v := .tuple #[.agg #[.slice A5 (ks.length + 1) c5, .slice (some ⟨g, 0, none⟩) (sizeN (ks.length + 1)) (sizeN (ks.length + 1))], .int .i64 ks.length, .bool true]) (by simp [results, Try.f30, go_sem, y0, y1]) rfl
    (put_close (w3 := w3.alloc (Obj.cells #[Value.slice E key.length ce] 24)) (w5 := w5) (w7 := w6) HN.out.symm (by rw [layI_length, HN.out]) rfl rfl rfl (by simp; omega) (by omega) HO.out (fun p _ h2 => q6.cell h2) q6.size HK5.out (q0.trans q06) _)

set_option maxRecDepth 100000 in
set_option maxHeartbeats 1000000 in
theorem put_set (A S E : Option Addr) (c d ce : Nat) (ks : List (List Int)) (sl key : List Int) (w : World) (s p : Int) (hk : Keys w w.heap.size A ks) (hS : Ints w w.heap.size S sl) (he : Ints w w.heap.size E key)
    (hs : ∀ k ∈ ks, k.length ≤ maxLen) (hkl : key.length ≤ 1000) (hsl : sl.length ≤ 100000) (hl : ks.length ≤ 5000) (ht : ks.flatten.length ≤ 50000) (hsk : seekI (sameP ks key) sl (hashN key) = (s, p)) (hce : key.length ≤ ce) (hp : p < 0) (sn : Nat) (hse : s = sn) (hsl2 : sn < sl.length) (hq : sl.length = sizeN (ks.length + 1)) :
    Calls Try.prog 30 #[.agg #[.slice A ks.length c, .slice S sl.length d], .slice E key.length ce] w (PutPost (ks ++ [key]) (sl.set sn ((ks.length : Int) + 1)) ks.length true w) := by
  subst hse
  have Hq := Lib.hid hq
  clear hq
  have q0 := ((Q.refl w).alloc (Obj.cells #[Value.slice A ks.length c, Value.slice S sl.length d] 26)).alloc (Obj.cells #[Value.slice none 0 0, Value.slice none 0 0] 26)
  have Hk := Lib.hid ((hk.q (Nat.le_refl _) q0).more q0.size)
  have HS := Lib.hid ((hS.q (Nat.le_refl _) q0).more q0.size)
  have He := Lib.hid ((he.q (Nat.le_refl _) q0).more q0.size)
  have Hs := Lib.hid hs
  have Hsk := Lib.hid hsk
  have HB := Lib.hid (TwoB.new w (Value.slice A ks.length c) (Value.slice S sl.length d) (Value.slice none 0 0) (Value.slice none 0 0) 26 26)
  clear hk hS he hs hsk
  have hkm : key.length ≤ maxLen := by unfold maxLen; omega
  go_enter Try.func30, Try.ntmps30
  go_wp2_with fail
  generalize (w.alloc (Obj.cells #[Value.slice A ks.length c, Value.slice S sl.length d] 26)).alloc (Obj.cells #[Value.slice none 0 0, Value.slice none 0 0] 26) = W0 at *
  have k0 := HB.out.c0
  have k1 := HB.out.c1
  have hlt : w.heap.size < W0.heap.size := by have := HB.out.lt; omega
  go_region_held3 (fun w' => w'.cell? ⟨w.heap.size, 0, none⟩ = some (.slice A ks.length c) ∧ w'.cell? ⟨w.heap.size, 1, none⟩ = some (.slice S sl.length d))
    (first
      | go_keep
      | exact ⟨(p1.cell (p := ⟨w.heap.size, 0, none⟩) hlt).trans k0, (p1.cell (p := ⟨w.heap.size, 1, none⟩) hlt).trans k1⟩
      | exact ⟨((p1.trans q2).cell (p := ⟨w.heap.size, 0, none⟩) hlt).trans k0, ((p1.trans q2).cell (p := ⟨w.heap.size, 1, none⟩) hlt).trans k1⟩)
    (first
      | (go_at_call 55; refine (hashN_any _ _ _ key _ rfl (by exact He.out) hkm).mono ?_; rintro e w' ⟨rfl, rfl⟩)
      | (go_at_call 56; refine (sameAsQ_any _ _ _ _ _ _ ks key _ rfl rfl (by exact Hk.out) (by exact He.out) Hs.out).mono ?_; rintro e w1 ⟨Bk, Be, rfl, q1, hC⟩; have HC := Lib.hid hC; clear hC; have p1 := (Q.refl W0).drew.trans q1)
      | (go_at_call 54; refine (seek_same _ _ _ sl _ (sameP ks key) Bk Be _ rfl (by exact ((HS.out.q (Nat.le_refl _) p1).more p1.size)) (hashN_lt _) (by omega) HC.out).mono ?_; rintro e w2 ⟨rfl, q2⟩; rw [Hsk.out]))
  have q02 := p1.trans q2
  have HB2 := Lib.hid (HB.out.q q02)
  have k1' := HB2.out.c1
  clear k0 k1 q1 q2 p1 HC
  go_wp2_with fail
  refine (clone_any _ _ _ sl _ rfl ((HS.out.q (Nat.le_refl _) q02).more q02.size) hsl).mono ?_
  rintro e w3 ⟨S3, d3, rfl, hS3, q3⟩
  have HS3 := Lib.hid hS3
  have q03 := q02.trans q3
  have HB3 := Lib.hid (HB2.out.q q3)
  have c0 := HB3.out.c0
  clear k1' hS3
  have Hkey : Hid (∀ W : World, Q W0 W → Keys (W.alloc (.cells #[.slice E key.length ce] 24)) (W.alloc (.cells #[.slice E key.length ce] 24)).heap.size (some ⟨W.heap.size, 0, none⟩) [key]) := fun W hW _ => by
    have q1 := (Q.refl W).alloc (.cells #[.slice E key.length ce] 24)
    refine ⟨_, rfl, by simp, fun i k hk => ?_⟩
    match i, hk with
    | 0, hk =>
      obtain rfl : key = k := by simpa using hk
      have q2 := hW.trans q1
      exact ⟨E, ce, hce, by rw [add_zero_head, cell_of_row _ _ _ _ _ _ (heap_alloc_new W _)]; rfl, (He.out.q (Nat.le_refl _) q2).more q2.size⟩
  have HN : Hid ((ks ++ [key]).length = ks.length + 1) := Lib.hid (by simp)
  have HT : Hid ((ks ++ [key]).flatten.length ≤ 60000) := Lib.hid (by rw [List.flatten_append, List.length_append]; simp only [List.flatten_cons, List.flatten_nil, List.append_nil]; omega)
  have HSz : Hid (∀ k ∈ ks ++ [key], k.length ≤ maxLen) := fun k hk => by
    rw [List.mem_append, List.mem_singleton] at hk
    rcases hk with h | rfl
    · exact Hs.out k h
    · exact hkm
  go_wp2_with fail
  refine (copyKeys_any _ _ _ _ _ _ ks [key] _ rfl rfl ((Hk.out.q (Nat.le_refl _) (q03.alloc _)).more (q03.alloc _).size) (Hkey.out w3 q03) (by rw [HN.out]; omega) (by have := HT.out; omega)).mono ?_
  rintro e w5 ⟨A5, c5, rfl, hK5, q5, hcp5⟩
  have Hcp5 := Lib.hid hcp5
  clear hcp5
  rw [HN.out]
  have q35 := ((Q.refl w3).alloc _).trans q5
  have q05 := q03.trans q35
  have HB5 := Lib.hid (HB3.out.q q35)
  have HK5 := Lib.hid hK5
  have hN := HN.out
  clear c0 hK5 q5

  have Hz : Hid (sizeN (ks.length + 1) = sl.length) := Lib.hid Hq.out.symm
  have hne : ((sl.length : Int) != (sl.length : Int)) = false := by simp
  obtain ⟨g3, rfl, hg3, ho3⟩ := HS3.out (by omega)
  have HO := Lib.hid (ho3.q q35)
  have h0 := (HO.out.at_ hsl2).1
  have h1 := (HO.out.at_ hsl2).2
  have hlt2 := HB2.out.lt
  clear ho3
  go_wp2_with fail
  refine (size1_any ks.length _ (by omega)).mono ?_
  rintro e w6 ⟨rfl, rfl⟩
  rw [Hz.out]
  go_upto_region 9 with fail
  have Hs2 := Lib.hid hsl2
  have HO7 := Lib.hid (HO.out.set Hs2.out ((ks.length : Int) + 1))
  have HB7 := Lib.hid (HB5.out.set (g := g3) (i := sn) (by omega) (.int .i64 ((ks.length : Int) + 1)))
  have q57 : Q w (w5.setCell ⟨g3, sn, none⟩ (.int .i64 ((ks.length : Int) + 1))) := (q0.trans q05).setCell (p := ⟨g3, sn, none⟩) (by show _ ≤ g3; omega) _
  have H57 : Hid (∀ p : Addr, p.block ≠ g3 → (w5.setCell ⟨g3, sn, none⟩ (.int .i64 ((ks.length : Int) + 1))).cell? p = w5.cell? p) := fun p hp => World.cell?_setCell_far _ _ _ _ (fun e => hp e.symm)
  have hz7 : w5.heap.size ≤ (w5.setCell ⟨g3, sn, none⟩ (.int .i64 ((ks.length : Int) + 1))).heap.size := by simp [World.setCell]
  clear h0 h1
  generalize w5.setCell ⟨g3, sn, none⟩ (.int .i64 ((ks.length : Int) + 1)) = w7 at *
  have r0 := HB7.out.r0
  have r1 := HB7.out.r1
  have f0 := HB7.out.f0
  have f1 := HB7.out.f1
  have c0 := HB7.out.c0
  have hg3' : g3 < w3.heap.size := by have := (HS3.out (by omega)); obtain ⟨g', e, _, o⟩ := this; injection e with e; injection e with e; subst e; exact o.1
  go_region
  all_goals go_wp2_with fail
  obtain ⟨y0, y1, _⟩ := set_two (w := w) (u := .slice A5 (ks.length + 1) c5) (v := .slice (some ⟨g3, 0, none⟩) sl.length d3) r0 r1
  have hlt3 := HB3.out.lt
  have hz3 := q35.size
  refine bodyPost_ret (v := .tuple #[.agg #[.slice A5 (ks.length + 1) c5, .slice (some ⟨g3, 0, none⟩) sl.length d3], .int .i64 ks.length, .bool true]) (by simp [results, Try.f30, go_sem, y0, y1]) rfl
    (put_close (w3 := w3.alloc (Obj.cells #[Value.slice E key.length ce] 24)) (w5 := w5) (w7 := w7) HN.out.symm (by rw [List.length_set]) rfl rfl rfl (by simp; omega) (by omega) HO7.out (fun p h1 h2 => H57.out p (by simp at h1; omega)) hz7 HK5.out q57 _)
end Go.Proofs.Ytgnbempkobgeiaa.Hs
