/-
  Contracts of firstKeys, New, slices.EqualFunc (of the same keys), and of term.Right on stores.
-/
import Derived.Test.YtgnbempkobgeiaaTermX
namespace Go.Proofs.Ytgnbempkobgeiaa.Tm
open Go.RowKit Kit Hs

def first3 : List (List Int) := [[0, 0, 0], [1, 0, 0]]
def FirstPost (w : World) (e : Ending) (w' : World) : Prop :=
  ∃ A c, e = .returned (.slice A 2 c) ∧ (∀ W : World, (∀ p : Addr, w.heap.size ≤ p.block → p.block < w'.heap.size → W.cell? p = w'.cell? p) → Keys W w'.heap.size A first3) ∧ Q w w' ∧ 2 ≤ c

set_option maxRecDepth 100000 in
set_option maxHeartbeats 1000000 in
theorem first_any (w : World) : Calls Try.prog 46 #[] w (FirstPost w) := by
  go_enter Try.func46, Try.ntmps46
  go_wp2_with fail
  refine (key_any none 0 0 0 0 0 [] _ rfl (fun h => absurd h (by simp)) (by simp)).mono ?_
  rintro e w1 ⟨g1, c1, rfl, hg1, hc1, hO1, q1⟩
  have HO1 := Lib.hid hO1
  have Hc1 : Hid (3 ≤ c1) := hc1
  show _
  have e1 : ([0, 0, 0] : List Int).length = 3 := rfl
  rw [e1]
  clear hO1 hc1 e1
  go_wp2_with fail
  refine (key_any none 0 0 1 0 0 [] _ rfl (fun h => absurd h (by simp)) (by simp)).mono ?_
  rintro e w2 ⟨g2, c2, rfl, hg2, hc2, hO2, q2⟩
  have HO2 := Lib.hid hO2
  have Hc2 : Hid (3 ≤ c2) := hc2
  have e2 : ([1, 0, 0] : List Int).length = 3 := rfl
  rw [e2]
  clear hO2 hc2 e2
  go_wp2_with fail
  go_ret
  have q12 := q2.alloc (Obj.cells #[.slice (some ⟨g1, 0, none⟩) 3 c1, .slice (some ⟨g2, 0, none⟩) 3 c2] 24)
  have h1 := (HO1.out.q q12)
  have h2 := (HO2.out.q ((Q.refl w2).alloc (Obj.cells #[.slice (some ⟨g1, 0, none⟩) 3 c1, .slice (some ⟨g2, 0, none⟩) 3 c2] 24)))
  have hs1 := q1.size
  have hs2 := q2.size
  refine ⟨some ⟨w2.heap.size, 0, none⟩, 2, rfl, fun W hW _ => ⟨_, rfl, by simp, fun i key hi => ?_⟩, q1.trans q12, Nat.le_refl _⟩
  match i, hi with
  | 0, hi =>
    obtain rfl : [0, 0, 0] = key := by simpa [first3] using hi
    refine ⟨some ⟨g1, 0, none⟩, c1, Hc1.out, ?_, fun _ => ⟨_, rfl, h1.1, fun j x hx => ?_⟩⟩
    · rw [add_zero_head, hW _ (by show _ ≤ w2.heap.size; omega) (by simp), cell_of_row _ _ _ _ _ _ (heap_alloc_new w2 _)]; rfl
    · rw [add_zero_head, hW _ (by show _ ≤ g1; omega) h1.1]; exact (h1.2 j x hx).1
  | 1, hi =>
    obtain rfl : [1, 0, 0] = key := by simpa [first3] using hi
    refine ⟨some ⟨g2, 0, none⟩, c2, Hc2.out, ?_, fun _ => ⟨_, rfl, h2.1, fun j x hx => ?_⟩⟩
    · rw [add_zero_head, hW _ (by show _ ≤ w2.heap.size; omega) (by simp), cell_of_row _ _ _ _ _ _ (heap_alloc_new w2 _)]; rfl
    · rw [add_zero_head, hW _ (by show _ ≤ g2; omega) h2.1]; exact (h2.2 j x hx).1

theorem size2 : sizeN 2 = 8 := by unfold sizeN; rw [sizeG_ge (by omega)]
def NewPost (w : World) (e : Ending) (w' : World) : Prop :=
  ∃ A c S d, e = .returned (.agg #[.slice A 2 c, .slice S 8 d]) ∧ Keys w' w'.heap.size A first3 ∧ Ints w' w'.heap.size S (layI first3) ∧ Q w w'

set_option maxRecDepth 100000 in
set_option maxHeartbeats 1000000 in
theorem new_any (w : World) : Calls Try.prog 24 #[] w (NewPost w) := by
  have q0 := (Q.refl w).alloc (Obj.cells #[Value.slice none 0 0, Value.slice none 0 0] 26)
  have HR := Lib.hid (BoxF.new w 26)
  go_enter Try.func24, Try.ntmps24
  go_wp2_with fail
  generalize w.alloc (Obj.cells #[Value.slice none 0 0, Value.slice none 0 0] 26) = W0 at *
  refine (first_any _).mono ?_
  rintro e w1 ⟨A1, c1, rfl, hF, q1, _⟩
  have HF := Lib.hid hF
  clear hF
  go_wp2_with fail
  refine (lay_any _ _ _ first3 _ rfl (HF.out w1 (fun _ _ _ => rfl)) (by simp [first3]) (by simp [first3, maxLen])).mono ?_
  rintro e w2 ⟨g, rfl, hg, hO, q2⟩
  have HO := Lib.hid hO
  have hlen : first3.length = 2 := rfl
  rw [hlen, size2]
  have HR2 := Lib.hid ((HR.out.q q1).q q2)
  have r0 := HR2.out.c0
  have r1 := HR2.out.c1
  have f0 := HR2.out.f0
  have f1 := HR2.out.f1
  have hl0 := HR.out.lt
  have hz1 := q1.size
  have hz2 := q2.size
  clear hO hlen
  go_wp2_with fail
  obtain ⟨y0, y1⟩ := HR2.out.two (.slice A1 2 c1) (.slice (some ⟨g, 0, none⟩) 8 8)
  have hz : ((w2.setCell ⟨w.heap.size, 0, none⟩ (.slice A1 2 c1)).setCell ⟨w.heap.size, 1, none⟩ (.slice (some ⟨g, 0, none⟩) 8 8)).heap.size = w2.heap.size := by simp [World.setCell]
  refine bodyPost_ret (v := .agg #[.slice A1 2 c1, .slice (some ⟨g, 0, none⟩) 8 8]) (by simp [results, Try.f24, go_sem, y0, y1]) rfl ⟨A1, c1, some ⟨g, 0, none⟩, 8, rfl, ?_, fun _ => ⟨_, rfl, by rw [hz]; exact HO.out.1, fun i x hx => ?_⟩, (((q0.trans q1).trans q2).setCell (p := ⟨w.heap.size, 0, none⟩) (Nat.le_refl _) _).setCell (p := ⟨w.heap.size, 1, none⟩) (Nat.le_refl _) _⟩
  · exact (HF.out _ fun p h1 h2 => (set_two_other _ _ _ _ _ (by omega)).trans (q2.cell h2)).more (by rw [hz]; exact hz2)
  · rw [add_zero_head, set_two_other _ _ _ _ _ (by show g ≠ _; omega)]
    exact (HO.out.2 i x hx).1

set_option maxRecDepth 100000 in
set_option maxHeartbeats 1000000 in
theorem equalF_any (A B : Option Addr) (n c n' c' : Nat) (ks : List (List Int)) (w : World) (hn : n = ks.length) (hn' : n' = ks.length) (hk : Keys w w.heap.size A ks) (hk' : Keys w w.heap.size B ks) (hl : ks.length ≤ 5000) (hs : ∀ k ∈ ks, k.length ≤ 100000) :
    Calls Try.prog 48 #[.slice A n c, .slice B n' c', .func (.func 45) #[] #[]] w fun e w' => e = .returned (.bool true) ∧ Q w w' := by
  subst hn
  subst hn'
  have hne : ((ks.length : Int) != (ks.length : Int)) = false := by simp
  have Hk := Lib.hid hk
  have Hk' := Lib.hid hk'
  have HsM := Lib.hid hs
  clear hk hk' hs
  go_enter Try.func48, Try.ntmps48
  go_wp2_with fail
  go_loopw [7, 8, 9, 17] (fun _ _ _ i wr => ∃ k : Nat, k ≤ ks.length ∧ i = .int .i64 k ∧ Q w wr) (fun _ _ _ i _ => ks.length - (intOf i).toNat)
  case atStart => exact ⟨0, Nat.zero_le _, rfl, Q.refl _⟩
  case round =>
    obtain ⟨k, hkl, rfl, qr⟩ := hrel
    by_cases hlt : k < ks.length
    · obtain ⟨ad, rfl, hb, a, c1, _, c0, hi⟩ := (Hk.out.q (Nat.le_refl _) qr).at_ hlt
      obtain ⟨ad', rfl, hb', a', c1', _, c0', hi'⟩ := (Hk'.out.q (Nat.le_refl _) qr).at_ hlt
      have C := equal_any a a' _ c1 _ c1' ks[k] ks[k] wr rfl rfl (hi.more qr.size) (hi'.more qr.size) (by have := HsM.out _ (List.getElem_mem hlt); unfold maxLen; omega)
      rw [(eqL_iff _ _).2 rfl] at C
      have HC := Lib.hid C
      clear C hi hi'
      go_wp2_with (go_at_call 45; refine HC.out.mono ?_; rintro e w1 ⟨rfl, hd1⟩; have q1 := Q.of_drewN hd1; clear hd1)
      go_roundw
      case rel => exact ⟨k + 1, by omega, by go_num, qr.trans q1⟩
      case measure => simp [intOf]; omega
    · go_wp2_with fail
      go_ret
      exact ⟨rfl, qr⟩
end Go.Proofs.Ytgnbempkobgeiaa.Tm
