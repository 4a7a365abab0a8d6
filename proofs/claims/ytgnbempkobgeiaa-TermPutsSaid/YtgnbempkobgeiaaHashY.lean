/-
  Tables in boxes; how large a table with a key is.
-/
import Derived.Test.YtgnbempkobgeiaaHashX
import Derived.Test.YtgnbempkobgeiaaHashOpen
namespace Go.Proofs.Ytgnbempkobgeiaa.Hs
open Go.RowKit Kit

structure BoxT (W : World) (B : Nat) (a b : Value) : Prop where
  c0 : W.cell? ⟨B, 0, none⟩ = some a
  c1 : W.cell? ⟨B, 1, none⟩ = some b
  lt : B < W.heap.size
theorem BoxT.q {W W' : World} {B : Nat} {a b : Value} (h : BoxT W B a b) (q : Q W W') : BoxT W' B a b :=
  ⟨(q.cell (p := ⟨B, 0, none⟩) h.lt).trans h.c0, (q.cell (p := ⟨B, 1, none⟩) h.lt).trans h.c1, Nat.lt_of_lt_of_le h.lt q.size⟩
theorem BoxT.new (w : World) (a b : Value) (t : TypeId) : BoxT (w.alloc (.cells #[a, b] t)) w.heap.size a b := ⟨by simp, by simp, by simp⟩
theorem putL_sizes {ks : List (List Int)} {key : List Int} {m : Nat} (hf : fewB ks m = true) (hk : key.length ≤ 500) : (putL ks key).length ≤ 2001 ∧ (putL ks key).flatten.length ≤ 2500 ∧ ∀ k ∈ putL ks key, k.length ≤ maxLen := by
  have h := few_sum hf
  have hm : ∀ k ∈ ks, k.length ≤ maxLen := fun k hk => by have := mem_len hk; unfold maxLen; omega
  unfold putL
  split
  · refine ⟨by simp; omega, by rw [List.flatten_append, List.length_append]; simp only [List.flatten_cons, List.flatten_nil, List.append_nil]; omega, fun k hk' => ?_⟩
    rw [List.mem_append, List.mem_singleton] at hk'
    rcases hk' with h' | rfl
    · exact hm k h'
    · unfold maxLen; omega
  · exact ⟨by omega, by omega, hm⟩
theorem few_lens {ks : List (List Int)} {m : Nat} (hf : fewB ks m = true) : ∀ k ∈ ks, k.length ≤ maxLen := fun k hk => by have := few_sum hf; have := mem_len hk; unfold maxLen; omega
theorem place_again {ks : List (List Int)} {key : List Int} (hd : Dist ks) : placeI (putL ks key) key = placeI ks key := by
  have h := putL_at (key := key) hd
  have h0 := @placeI_nonneg ks key
  rw [placeI, if_neg (by omega), h]
theorem new_again {ks : List (List Int)} {key : List Int} (hd : Dist ks) : newB (putL ks key) key = false := by
  have h := putL_at (key := key) hd
  have h0 := @placeI_nonneg ks key
  unfold newB
  exact decide_eq_false (by omega)

end Go.Proofs.Ytgnbempkobgeiaa.Hs
