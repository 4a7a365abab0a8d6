/-
  Contracts of hash.Find, hash.Put and hash.Right.
-/
import Derived.Test.YtgnbempkobgeiaaHashF
import Derived.Deep.RegionHeld3
namespace Go.Proofs.Ytgnbempkobgeiaa.Hs
open Go.RowKit Kit

def SameAsPost (ks : List (List Int)) (key : List Int) (w : World) (e : Ending) (w' : World) : Prop :=
  ∃ Bk Be, e = .returned (.func (.func 65) #[] #[.pointer (some ⟨Bk, 0, none⟩), .pointer (some ⟨Be, 0, none⟩)]) ∧ Q w w' ∧
    ∀ x W, Q w' W → Calls Try.prog 65 #[.int .i64 x, .pointer (some ⟨Bk, 0, none⟩), .pointer (some ⟨Be, 0, none⟩)] W fun e W' => e = .returned (.bool (sameP ks key x)) ∧ ∃ d, W' = W.drewN d
theorem sameAsQ_any (A E : Option Addr) (n c n' c' : Nat) (ks : List (List Int)) (key : List Int) (w : World) (hn : n = ks.length) (hn' : n' = key.length) (hk : Keys w w.heap.size A ks) (he : Ints w w.heap.size E key) (hs : ∀ k ∈ ks, k.length ≤ maxLen) :
    Calls Try.prog 56 #[.slice A n c, .slice E n' c'] w (SameAsPost ks key w) := by
  subst hn
  subst hn'
  refine (sameAs_any A E _ c _ c' w).mono ?_
  rintro e w' ⟨rfl, rfl⟩
  have q := ((Q.refl w).alloc (.cells #[.slice A ks.length c] 23)).alloc (.cells #[.slice E key.length c'] 24)
  have b1 := (Boxed.new w 23 (.slice A ks.length c)).alloc (.cells #[.slice E key.length c'] 24)
  have b2 := Boxed.new (w.alloc (.cells #[.slice A ks.length c] 23)) 24 (.slice E key.length c')
  rw [World.size_alloc] at b2
  refine ⟨_, _, rfl, q, fun x W hW => ?_⟩
  have q' := q.trans hW
  exact same1_any w.heap.size (w.heap.size + 1) A E c c' ks key x W ((hk.q (Nat.le_refl _) q').more q'.size) ((he.q (Nat.le_refl _) q').more q'.size) hs ((hW.cell (p := ⟨w.heap.size, 0, none⟩) b1.lt).trans b1.cell) ((hW.cell (p := ⟨w.heap.size + 1, 0, none⟩) b2.lt).trans b2.cell)

set_option maxRecDepth 100000 in
set_option maxHeartbeats 1000000 in
theorem find_any (A S E : Option Addr) (n c m d ke ce : Nat) (ks : List (List Int)) (sl key : List Int) (w : World) (hn : n = ks.length) (hm : m = sl.length) (hke : ke = key.length) (hk : Keys w w.heap.size A ks) (hS : Ints w w.heap.size S sl) (he : Ints w w.heap.size E key)
    (hs : ∀ k ∈ ks, k.length ≤ maxLen) (hkl : key.length ≤ maxLen) (hsl : sl.length ≤ 100000000) :
    Calls Try.prog 29 #[.agg #[.slice A n c, .slice S m d], .slice E ke ce] w fun e w' => e = .returned (.int .i64 (seekI (sameP ks key) sl (hashN key)).2) ∧ Q w w' := by
  subst hn
  subst hm
  subst hke
  have q0 := (Q.refl w).alloc (Obj.cells #[Value.slice A ks.length c, Value.slice S sl.length d] 26)
  have Hk := Lib.hid ((hk.q (Nat.le_refl _) q0).more q0.size)
  have HS := Lib.hid ((hS.q (Nat.le_refl _) q0).more q0.size)
  have He := Lib.hid ((he.q (Nat.le_refl _) q0).more q0.size)
  have Hs := Lib.hid hs
  clear hk hS he hs
  go_enter Try.func29, Try.ntmps29
  go_wp2_with fail
  have k0 : (w.alloc (Obj.cells #[Value.slice A ks.length c, Value.slice S sl.length d] 26)).cell? ⟨w.heap.size, 0, none⟩ = some (.slice A ks.length c) := by simp
  have k1 : (w.alloc (Obj.cells #[Value.slice A ks.length c, Value.slice S sl.length d] 26)).cell? ⟨w.heap.size, 1, none⟩ = some (.slice S sl.length d) := by simp
  have hlt : w.heap.size < (w.alloc (Obj.cells #[Value.slice A ks.length c, Value.slice S sl.length d] 26)).heap.size := by simp
  generalize w.alloc (Obj.cells #[Value.slice A ks.length c, Value.slice S sl.length d] 26) = W0 at *
  go_region_held3 (fun w' => w'.cell? ⟨w.heap.size, 0, none⟩ = some (.slice A ks.length c) ∧ w'.cell? ⟨w.heap.size, 1, none⟩ = some (.slice S sl.length d))
    (first
      | go_keep
      | exact ⟨(p1.cell (p := ⟨w.heap.size, 0, none⟩) hlt).trans k0, (p1.cell (p := ⟨w.heap.size, 1, none⟩) hlt).trans k1⟩
      | exact ⟨((p1.trans q2).cell (p := ⟨w.heap.size, 0, none⟩) hlt).trans k0, ((p1.trans q2).cell (p := ⟨w.heap.size, 1, none⟩) hlt).trans k1⟩)
    (first
      | (go_at_call 55; refine (hashN_any _ _ _ key _ rfl (by exact He.out) hkl).mono ?_; rintro e w' ⟨rfl, rfl⟩)
      | (go_at_call 56; refine (sameAsQ_any _ _ _ _ _ _ ks key _ rfl rfl (by exact Hk.out) (by exact He.out) Hs.out).mono ?_; rintro e w1 ⟨Bk, Be, rfl, q1, hC⟩; have HC := Lib.hid hC; clear hC; have p1 := (Q.refl W0).drew.trans q1)
      | (go_at_call 54; refine (seek_same _ _ _ sl _ (sameP ks key) Bk Be _ rfl (by exact ((HS.out.q (Nat.le_refl _) p1).more p1.size)) (hashN_lt _) hsl HC.out).mono ?_; rintro e w2 ⟨rfl, q2⟩))
  go_wp2_with fail
  go_ret
  exact ⟨rfl, (q0.trans p1).trans q2⟩
end Go.Proofs.Ytgnbempkobgeiaa.Hs
