/-
  What the proofs lean on, part 4 of 10.
-/
import Derived.Test.YtjgbheidkjgncaaPa
import Derived.Test.YtjgbheidkjgncaaPb
import Derived.Test.YtjgbheidkjgncaaPc
import Derived.Outline
import Derived.Laws.Append
import Derived.Laws.MakeOwn
import Derived.Laws.CopyOwn
import Derived.Laws.OwnMore
import Derived.OwnWalk
import Derived.Deep.RegionHeld
import Derived.Laws.StructEq
import Derived.ChangeKeysEq
import Derived.Laws.EntriesVeiled
import Derived.Deep.RegionHeld3
namespace Go.Proofs.Ytjgbheidkjgncaa.Tm
open Go.RowKit Kit Hs

def CloneP (vs : List Value) (w : World) (e : Ending) (w' : World) : Prop :=
  ∃ A c, e = .returned (.slice A vs.length c) ∧ vs.length ≤ c ∧ (0 < vs.length → ∃ g, A = some ⟨g, 0, none⟩ ∧ w.heap.size ≤ g ∧ g < w'.heap.size ∧ ∀ j u, vs[j]? = some u → w'.cell? ⟨g, j, none⟩ = some u ∧ w'.frozen? ⟨g, j, none⟩ = false) ∧ Q w w'

set_option maxRecDepth 100000 in
set_option maxHeartbeats 1000000 in
theorem cloneK_any (A : Option Addr) (n c : Nat) (vs : List Value) (w : World) (hn : n = vs.length) (hr : SrcB w w.heap.size A vs) (h1 : ∀ u ∈ vs, u.oneCell' = true) (hl : vs.length ≤ 100000) :
    Calls Try.prog 47 #[.slice A n c] w (CloneP vs w) := by
  subst hn
  have heq := fun u => Lib.run_eql_slice_nil (P := Try.prog) u 23 24 A vs.length c 0 0 Try.underlying23
  cases A with
  | none =>
    have e : vs = [] := by
      rcases Nat.eq_zero_or_pos vs.length with h | h
      · exact List.eq_nil_of_length_eq_zero h
      · obtain ⟨_, e, _⟩ := hr h; cases e
    subst e
    have heq' : ∀ u, (binOp .eql 23 (.slice none 0 c) (.slice none 0 0)).run Try.prog u = .ok (.bool true) u := heq
    clear heq hr hl
    go_enter Try.func47, Try.ntmps47
    go_wp2_with fail
    go_ret
    exact ⟨none, 0, rfl, Nat.le_refl _, fun h => by simp at h, Q.refl _⟩
  | some ad =>
    have heq' : ∀ u, (binOp .eql 23 (.slice (some ad) vs.length c) (.slice none 0 0)).run Try.prog u = .ok (.bool false) u := heq
    obtain ⟨i0, hi, hz0, hz1, hz2⟩ := info_parts sliceInfo
    have Hi := Lib.hid hi
    have Hz0 := Lib.hid hz0
    have Hz1 := Lib.hid hz1
    have Hz2 := Lib.hid hz2
    have HsR := Lib.hid (hr.keep ((Q.refl w).alloc (Obj.cells #[] 24)))
    have Ho := Lib.hid (own_empty (base := w.heap.size) (e := 24) (size := 1) (Nat.le_refl _) (heap_alloc_new w (Obj.cells #[] 24)))
    clear heq hi hz0 hz1 hz2 hr
    go_enter Try.func47, Try.ntmps47
    go_wp2_with (at_builtin; refine wpList_append_src _ rfl (.tmp 5) (.tmp 6) _ rfl w.heap.size 24 i0 _ 1 24 Try.underlying23 Hi.out Hz0.out Hz1.out Hz2.out rfl (by omega) (.slice (some ⟨w.heap.size, 0, none⟩) 0 0) 0 [] rfl Ho.out (some ad) vs.length c vs rfl (by simp) HsR.out.src h1 (by unfold maxLen; omega) (by omega) (by simp) ?_; intro v' w' own' gr' _)
    have q2 : Q w w' := ((Q.refl w).alloc (Obj.cells #[] 24)).grown gr' (by simp) (by simp [Value.ownBlock])
    rw [Nat.zero_add, List.nil_append] at own'
    have Ho' := Lib.hid own'
    clear own' gr'
    go_wp2_with fail
    go_ret
    obtain ⟨A2, c2, rfl, hle, hA2⟩ := own_form Ho'.out
    exact ⟨A2, c2, rfl, hle, hA2, q2⟩

end Go.Proofs.Ytjgbheidkjgncaa.Tm

namespace Go.Proofs.Ytjgbheidkjgncaa.Hs
open Go.RowKit Kit

def PutPostF (ks : List (List Int)) (sl : List Int) (place : Int) (new : Bool) (w : World) (e : Ending) (w' : World) : Prop :=
  ∃ A c S d, e = .returned (.tuple #[.agg #[.slice A ks.length c, .slice S sl.length d], .int .i64 place, .bool new]) ∧
    (∀ W : World, (∀ p : Addr, w.heap.size ≤ p.block → p.block < w'.heap.size → W.cell? p = w'.cell? p) → Keys W w'.heap.size A ks ∧ Ints W w'.heap.size S sl) ∧ Q w w' ∧ ks.length ≤ c
theorem clone_intsF {w w' W : World} {S : Option Addr} {sl : List Int} {lo B : Nat} (h : 0 < sl.length → ∃ g, S = some ⟨g, 0, none⟩ ∧ lo ≤ g ∧ OwnI w g sl) (q : Q w w') (hB : w'.heap.size = B) (hW : ∀ p : Addr, lo ≤ p.block → p.block < B → W.cell? p = w'.cell? p) : Ints W B S sl := fun h0 => by
  obtain ⟨g, e, hg, ho⟩ := h h0
  have ho' := ho.q q
  refine ⟨_, e, by rw [← hB]; exact ho'.1, fun i x hx => ?_⟩
  rw [add_zero_head, hW _ hg (by rw [← hB]; exact ho'.1)]
  exact (ho'.2 i x hx).1
theorem putF_close {w w3 w5 w7 Wf : World} {A : Option Addr} {c g d n m : Nat} {ks : List (List Int)} {sl : List Int} {u v : Value} (hn : n = ks.length) (hm : m = sl.length) (hu : u = .slice A n c) (hv : v = .slice (some ⟨g, 0, none⟩) m d)
    (hW : Wf = ((w7.setCell ⟨w.heap.size + 1, 0, none⟩ u).setCell ⟨w.heap.size + 1, 1, none⟩ v).drew) (hlt : w.heap.size + 1 < w3.heap.size) (hg : w.heap.size + 1 < g) (hO : OwnI w7 g sl) (h57 : ∀ p : Addr, w3.heap.size < p.block + 1 → p.block < w5.heap.size → w7.cell? p = w5.cell? p) (hz : w5.heap.size ≤ w7.heap.size)
    (hK : ∀ W : World, (∀ p : Addr, w3.heap.size ≤ p.block → p.block < w5.heap.size → W.cell? p = w5.cell? p) → Keys W w5.heap.size A ks) (q : Q w w7) (place : Int) (hcp : ks.length ≤ c) :
    PutPostF ks sl place true w (.returned (.tuple #[.agg #[u, v], .int .i64 place, .bool true])) Wf := by
  subst hW hu hv hn hm
  have hs : (((w7.setCell ⟨w.heap.size + 1, 0, none⟩ (.slice A ks.length c)).setCell ⟨w.heap.size + 1, 1, none⟩ (.slice (some ⟨g, 0, none⟩) sl.length d)).drew).heap.size = w7.heap.size := by show ((w7.setCell _ _).setCell _ _).heap.size = _; simp [World.setCell]
  have ho : ∀ p : Addr, p.block ≠ w.heap.size + 1 → (((w7.setCell ⟨w.heap.size + 1, 0, none⟩ (.slice A ks.length c)).setCell ⟨w.heap.size + 1, 1, none⟩ (.slice (some ⟨g, 0, none⟩) sl.length d)).drew).cell? p = w7.cell? p := fun p hp => by
    show ((w7.setCell _ _).setCell _ _).cell? p = _
    exact (World.cell?_setCell_far _ _ _ _ (fun e => hp e.symm)).trans (World.cell?_setCell_far _ _ _ _ (fun e => hp e.symm))
  refine ⟨A, c, _, d, rfl, fun W hW => ?_, ?_, hcp⟩
  · rw [hs] at hW ⊢
    refine ⟨(hK W fun p h1 h2 => (hW p (by omega) (by omega)).trans ((ho p (by omega)).trans (h57 p (by omega) h2))).more hz, fun _ => ⟨_, rfl, hO.1, fun i x hx => ?_⟩⟩
    rw [add_zero_head, hW _ (by show w.heap.size ≤ g; omega) hO.1, ho _ (by show g ≠ _; omega)]
    exact (hO.2 i x hx).1
  · exact ((q.setCell (p := ⟨w.heap.size + 1, 0, none⟩) (by show _ ≤ w.heap.size + 1; omega) _).setCell (p := ⟨w.heap.size + 1, 1, none⟩) (by show _ ≤ w.heap.size + 1; omega) _).drew

set_option maxRecDepth 100000 in
set_option maxHeartbeats 1000000 in
theorem putF_old (A S E : Option Addr) (c d ce : Nat) (ks : List (List Int)) (sl key : List Int) (w : World) (s p : Int) (hk : Keys w w.heap.size A ks) (hS : Ints w w.heap.size S sl) (he : Ints w w.heap.size E key)
    (hs : ∀ k ∈ ks, k.length ≤ maxLen) (hkl : key.length ≤ 5000) (hsl : sl.length ≤ 100000) (hl : ks.length ≤ 5000) (ht : ks.flatten.length ≤ 50000) (hsk : seekI (sameP ks key) sl (hashN key) = (s, p)) (hp : 0 ≤ p) :
    Calls Try.prog 25 #[.agg #[.slice A ks.length c, .slice S sl.length d], .slice E key.length ce] w (PutPostF ks sl p false w) := by
  have q0 := ((Q.refl w).alloc (Obj.cells #[Value.slice A ks.length c, Value.slice S sl.length d] 26)).alloc (Obj.cells #[Value.slice none 0 0, Value.slice none 0 0] 26)
  have Hk := Lib.hid ((hk.q (Nat.le_refl _) q0).more q0.size)
  have HS := Lib.hid ((hS.q (Nat.le_refl _) q0).more q0.size)
  have He := Lib.hid ((he.q (Nat.le_refl _) q0).more q0.size)
  have Hs := Lib.hid hs
  have Hsk := Lib.hid hsk
  have HB := Lib.hid (TwoB.new w (Value.slice A ks.length c) (Value.slice S sl.length d) (Value.slice none 0 0) (Value.slice none 0 0) 26 26)
  clear hk hS he hs hsk
  have hkm : key.length ≤ maxLen := by unfold maxLen; omega
  go_enter Try.func25, Try.ntmps25
  go_wp2_with fail
  generalize (w.alloc (Obj.cells #[Value.slice A ks.length c, Value.slice S sl.length d] 26)).alloc (Obj.cells #[Value.slice none 0 0, Value.slice none 0 0] 26) = W0 at *
  have k0 := HB.out.c0
  have k1 := HB.out.c1
  have hlt : w.heap.size < W0.heap.size := by have := HB.out.lt; omega
  go_region_held3 (fun w' => w'.cell? ⟨w.heap.size, 0, none⟩ = some (.slice A ks.length c) ∧ w'.cell? ⟨w.heap.size, 1, none⟩ = some (.slice S sl.length d))
    (first
      | go_keep
      | exact ⟨(p1.cell (p := ⟨w.heap.size, 0, none⟩) hlt).trans k0, (p1.cell (p := ⟨w.heap.size, 1, none⟩) hlt).trans k1⟩
      | exact ⟨((p1.trans q2).cell (p := ⟨w.heap.size, 0, none⟩) hlt).trans k0, ((p1.trans q2).cell (p := ⟨w.heap.size, 1, none⟩) hlt).trans k1⟩)
    (first
      | (go_at_call 41; refine (hashN_any _ _ _ key _ rfl (by exact He.out) hkm).mono ?_; rintro e w' ⟨rfl, rfl⟩)
      | (go_at_call 42; refine (sameAsQ_any _ _ _ _ _ _ ks key _ rfl rfl (by exact Hk.out) (by exact He.out) Hs.out).mono ?_; rintro e w1 ⟨Bk, Be, rfl, q1, hC⟩; have HC := Lib.hid hC; clear hC; have p1 := (Q.refl W0).drew.trans q1)
      | (go_at_call 40; refine (seek_same _ _ _ sl _ (sameP ks key) Bk Be _ rfl (by exact ((HS.out.q (Nat.le_refl _) p1).more p1.size)) (hashN_lt _) (by omega) HC.out).mono ?_; rintro e w2 ⟨rfl, q2⟩; rw [Hsk.out]))
  have q02 := p1.trans q2
  have HB2 := Lib.hid (HB.out.q q02)
  have k1' := HB2.out.c1
  clear k0 k1 q1 q2 p1 HC
  go_wp2_with fail
  refine (clone_any _ _ _ sl _ rfl ((HS.out.q (Nat.le_refl _) q02).more q02.size) hsl).mono ?_
  rintro e w3 ⟨S3, d3, rfl, hS3, q3⟩
  have HS3 := Lib.hid hS3
  have q03 := q02.trans q3
  have HB3 := Lib.hid (HB2.out.q q3)
  have c0 := HB3.out.c0
  clear k1' hS3
  go_wp2_with fail
  refine (copyKeys_any _ _ _ _ _ _ ks [] _ rfl rfl ((Hk.out.q (Nat.le_refl _) q03).more q03.size) (fun h => absurd h (by simp)) (by rw [List.append_nil]; omega) (by rw [List.append_nil]; omega)).mono ?_
  rintro e w4 ⟨A4, c4, rfl, hK4, q4, hcp4⟩
  have Hcp4 := Lib.hid hcp4
  clear hcp4
  rw [List.append_nil] at hK4 ⊢
  have q04 := q03.trans q4
  have HB4 := Lib.hid (HB3.out.q q4)
  have r0 := HB4.out.r0
  have r1 := HB4.out.r1
  have f0 := HB4.out.f0
  have f1 := HB4.out.f1
  have HK4 := Lib.hid hK4
  clear c0 hK4
  go_wp2_with fail
  have hW : ∀ q : Addr, w2.heap.size ≤ q.block → ((w4.setCell ⟨w.heap.size + 1, 0, none⟩ (.slice A4 ks.length c4)).setCell ⟨w.heap.size + 1, 1, none⟩ (.slice S3 sl.length d3)).cell? q = w4.cell? q := fun q hq => set_two_other _ _ _ _ _ (by have := HB2.out.lt; omega)
  obtain ⟨y0, y1, yq⟩ := set_two (w := w) (u := .slice A4 ks.length c4) (v := .slice S3 sl.length d3) r0 r1
  have hz : ((w4.setCell ⟨w.heap.size + 1, 0, none⟩ (.slice A4 ks.length c4)).setCell ⟨w.heap.size + 1, 1, none⟩ (.slice S3 sl.length d3)).heap.size = w4.heap.size := by simp [World.setCell]
  have hlt2 := HB2.out.lt
  have hz3 := q3.size
  have hz4 := q4.size
  refine bodyPost_ret (v := .tuple #[.agg #[.slice A4 ks.length c4, .slice S3 sl.length d3], .int .i64 p, .bool false]) (by simp [results, Try.f25, go_sem, y0, y1]) rfl
    ⟨A4, c4, S3, d3, rfl, fun W hWW => ?_, yq (q0.trans q04), by have := Hcp4.out; rwa [List.append_nil] at this⟩
  rw [hz] at hWW ⊢
  exact ⟨HK4.out W fun q hq hq2 => (hWW q (by omega) hq2).trans (hW q (by omega)), clone_intsF HS3.out q4 rfl fun q hq hq2 => (hWW q (by omega) hq2).trans (hW q hq)⟩

set_option maxRecDepth 100000 in
set_option maxHeartbeats 1000000 in
theorem putF_lay2 (A S E : Option Addr) (c d ce : Nat) (ks : List (List Int)) (sl key : List Int) (w : World) (s p : Int) (hk : Keys w w.heap.size A ks) (hS : Ints w w.heap.size S sl) (he : Ints w w.heap.size E key)
    (hs : ∀ k ∈ ks, k.length ≤ maxLen) (hkl : key.length ≤ 5000) (hsl : sl.length ≤ 100000) (hl : ks.length ≤ 5000) (ht : ks.flatten.length ≤ 50000) (hsk : seekI (sameP ks key) sl (hashN key) = (s, p)) (hce : key.length ≤ ce) (hp : p < 0) (hsn : 0 ≤ s) (hq : sl.length ≠ sizeN (ks.length + 1)) :
    Calls Try.prog 25 #[.agg #[.slice A ks.length c, .slice S sl.length d], .slice E key.length ce] w (PutPostF (ks ++ [key]) (layI (ks ++ [key])) ks.length true w) := by
  have q0 := ((Q.refl w).alloc (Obj.cells #[Value.slice A ks.length c, Value.slice S sl.length d] 26)).alloc (Obj.cells #[Value.slice none 0 0, Value.slice none 0 0] 26)
  have Hk := Lib.hid ((hk.q (Nat.le_refl _) q0).more q0.size)
  have HS := Lib.hid ((hS.q (Nat.le_refl _) q0).more q0.size)
  have He := Lib.hid ((he.q (Nat.le_refl _) q0).more q0.size)
  have Hs := Lib.hid hs
  have Hsk := Lib.hid hsk
  have HB := Lib.hid (TwoB.new w (Value.slice A ks.length c) (Value.slice S sl.length d) (Value.slice none 0 0) (Value.slice none 0 0) 26 26)
  clear hk hS he hs hsk
  have hkm : key.length ≤ maxLen := by unfold maxLen; omega
  go_enter Try.func25, Try.ntmps25
  go_wp2_with fail
  generalize (w.alloc (Obj.cells #[Value.slice A ks.length c, Value.slice S sl.length d] 26)).alloc (Obj.cells #[Value.slice none 0 0, Value.slice none 0 0] 26) = W0 at *
  have k0 := HB.out.c0
  have k1 := HB.out.c1
  have hlt : w.heap.size < W0.heap.size := by have := HB.out.lt; omega
  go_region_held3 (fun w' => w'.cell? ⟨w.heap.size, 0, none⟩ = some (.slice A ks.length c) ∧ w'.cell? ⟨w.heap.size, 1, none⟩ = some (.slice S sl.length d))
    (first
      | go_keep
      | exact ⟨(p1.cell (p := ⟨w.heap.size, 0, none⟩) hlt).trans k0, (p1.cell (p := ⟨w.heap.size, 1, none⟩) hlt).trans k1⟩
      | exact ⟨((p1.trans q2).cell (p := ⟨w.heap.size, 0, none⟩) hlt).trans k0, ((p1.trans q2).cell (p := ⟨w.heap.size, 1, none⟩) hlt).trans k1⟩)
    (first
      | (go_at_call 41; refine (hashN_any _ _ _ key _ rfl (by exact He.out) hkm).mono ?_; rintro e w' ⟨rfl, rfl⟩)
      | (go_at_call 42; refine (sameAsQ_any _ _ _ _ _ _ ks key _ rfl rfl (by exact Hk.out) (by exact He.out) Hs.out).mono ?_; rintro e w1 ⟨Bk, Be, rfl, q1, hC⟩; have HC := Lib.hid hC; clear hC; have p1 := (Q.refl W0).drew.trans q1)
      | (go_at_call 40; refine (seek_same _ _ _ sl _ (sameP ks key) Bk Be _ rfl (by exact ((HS.out.q (Nat.le_refl _) p1).more p1.size)) (hashN_lt _) (by omega) HC.out).mono ?_; rintro e w2 ⟨rfl, q2⟩; rw [Hsk.out]))
  have q02 := p1.trans q2
  have HB2 := Lib.hid (HB.out.q q02)
  have k1' := HB2.out.c1
  clear k0 k1 q1 q2 p1 HC
  go_wp2_with fail
  refine (clone_any _ _ _ sl _ rfl ((HS.out.q (Nat.le_refl _) q02).more q02.size) hsl).mono ?_
  rintro e w3 ⟨S3, d3, rfl, hS3, q3⟩
  have HS3 := Lib.hid hS3
  have q03 := q02.trans q3
  have HB3 := Lib.hid (HB2.out.q q3)
  have c0 := HB3.out.c0
  clear k1' hS3
  have Hkey : Hid (∀ W : World, Q W0 W → Keys (W.alloc (.cells #[.slice E key.length ce] 24)) (W.alloc (.cells #[.slice E key.length ce] 24)).heap.size (some ⟨W.heap.size, 0, none⟩) [key]) := fun W hW _ => by
    have q1 := (Q.refl W).alloc (.cells #[.slice E key.length ce] 24)
    refine ⟨_, rfl, by simp, fun i k hk => ?_⟩
    match i, hk with
    | 0, hk =>
      obtain rfl : key = k := by simpa using hk
      have q2 := hW.trans q1
      exact ⟨E, ce, hce, by rw [add_zero_head, cell_of_row _ _ _ _ _ _ (heap_alloc_new W _)]; rfl, (He.out.q (Nat.le_refl _) q2).more q2.size⟩
  have HN : Hid ((ks ++ [key]).length = ks.length + 1) := Lib.hid (by simp)
  have HT : Hid ((ks ++ [key]).flatten.length ≤ 60000) := Lib.hid (by rw [List.flatten_append, List.length_append]; simp only [List.flatten_cons, List.flatten_nil, List.append_nil]; omega)
  have HSz : Hid (∀ k ∈ ks ++ [key], k.length ≤ maxLen) := fun k hk => by
    rw [List.mem_append, List.mem_singleton] at hk
    rcases hk with h | rfl
    · exact Hs.out k h
    · exact hkm
  go_wp2_with fail
  refine (copyKeys_any _ _ _ _ _ _ ks [key] _ rfl rfl ((Hk.out.q (Nat.le_refl _) (q03.alloc _)).more (q03.alloc _).size) (Hkey.out w3 q03) (by rw [HN.out]; omega) (by have := HT.out; omega)).mono ?_
  rintro e w5 ⟨A5, c5, rfl, hK5, q5, hcp5⟩
  have Hcp5 := Lib.hid hcp5
  clear hcp5
  rw [HN.out]
  have q35 := ((Q.refl w3).alloc _).trans q5
  have q05 := q03.trans q35
  have HB5 := Lib.hid (HB3.out.q q35)
  have HK5 := Lib.hid hK5
  have hN := HN.out
  clear c0 hK5 q5
  have hne : ((sl.length : Int) != (sizeN (ks.length + 1) : Int)) = true := by simp; omega
  go_wp2_with fail
  refine (size1_any ks.length _ (by omega)).mono ?_
  rintro e w6 ⟨rfl, rfl⟩
  go_wp2_with fail
  refine (lay_any _ _ _ (ks ++ [key]) _ HN.out.symm (HK5.out w5 (fun _ _ _ => rfl)) (by omega) HSz.out).mono ?_
  rintro e w6 ⟨g, rfl, hg, hO, q6⟩
  have q06 := q05.trans q6
  have HB6 := Lib.hid (HB5.out.q q6)
  have HO := Lib.hid hO
  have r0 := HB6.out.r0
  have r1 := HB6.out.r1
  have f0 := HB6.out.f0
  have f1 := HB6.out.f1
  have c0 := HB6.out.c0
  clear hO
  go_wp2_with fail
  go_region
  all_goals go_wp2_with fail
  obtain ⟨y0, y1, _⟩ := set_two (w := w) (u := .slice A5 (ks.length + 1) c5) (v := .slice (some ⟨g, 0, none⟩) (sizeN (ks.length + 1)) (sizeN (ks.length + 1))) r0 r1
  have hlt3 := HB3.out.lt
  have hz3 := q35.size
  refine bodyPost_ret (v := .tuple #[.agg #[.slice A5 (ks.length + 1) c5, .slice (some ⟨g, 0, none⟩) (sizeN (ks.length + 1)) (sizeN (ks.length + 1))], .int .i64 ks.length, .bool true]) (by simp [results, Try.f25, go_sem, y0, y1]) rfl
    (putF_close (hcp := Hcp5.out) (w3 := w3.alloc (Obj.cells #[Value.slice E key.length ce] 24)) (w5 := w5) (w7 := w6) HN.out.symm (by rw [layI_length, HN.out]) rfl rfl rfl (by simp; omega) (by omega) HO.out (fun p _ h2 => q6.cell h2) q6.size HK5.out (q0.trans q06) _)

set_option maxRecDepth 100000 in
set_option maxHeartbeats 1000000 in
theorem putF_set (A S E : Option Addr) (c d ce : Nat) (ks : List (List Int)) (sl key : List Int) (w : World) (s p : Int) (hk : Keys w w.heap.size A ks) (hS : Ints w w.heap.size S sl) (he : Ints w w.heap.size E key)
    (hs : ∀ k ∈ ks, k.length ≤ maxLen) (hkl : key.length ≤ 5000) (hsl : sl.length ≤ 100000) (hl : ks.length ≤ 5000) (ht : ks.flatten.length ≤ 50000) (hsk : seekI (sameP ks key) sl (hashN key) = (s, p)) (hce : key.length ≤ ce) (hp : p < 0) (sn : Nat) (hse : s = sn) (hsl2 : sn < sl.length) (hq : sl.length = sizeN (ks.length + 1)) :
    Calls Try.prog 25 #[.agg #[.slice A ks.length c, .slice S sl.length d], .slice E key.length ce] w (PutPostF (ks ++ [key]) (sl.set sn ((ks.length : Int) + 1)) ks.length true w) := by
  subst hse
  have Hq := Lib.hid hq
  clear hq
  have q0 := ((Q.refl w).alloc (Obj.cells #[Value.slice A ks.length c, Value.slice S sl.length d] 26)).alloc (Obj.cells #[Value.slice none 0 0, Value.slice none 0 0] 26)
  have Hk := Lib.hid ((hk.q (Nat.le_refl _) q0).more q0.size)
  have HS := Lib.hid ((hS.q (Nat.le_refl _) q0).more q0.size)
  have He := Lib.hid ((he.q (Nat.le_refl _) q0).more q0.size)
  have Hs := Lib.hid hs
  have Hsk := Lib.hid hsk
  have HB := Lib.hid (TwoB.new w (Value.slice A ks.length c) (Value.slice S sl.length d) (Value.slice none 0 0) (Value.slice none 0 0) 26 26)
  clear hk hS he hs hsk
  have hkm : key.length ≤ maxLen := by unfold maxLen; omega
  go_enter Try.func25, Try.ntmps25
  go_wp2_with fail
  generalize (w.alloc (Obj.cells #[Value.slice A ks.length c, Value.slice S sl.length d] 26)).alloc (Obj.cells #[Value.slice none 0 0, Value.slice none 0 0] 26) = W0 at *
  have k0 := HB.out.c0
  have k1 := HB.out.c1
  have hlt : w.heap.size < W0.heap.size := by have := HB.out.lt; omega
  go_region_held3 (fun w' => w'.cell? ⟨w.heap.size, 0, none⟩ = some (.slice A ks.length c) ∧ w'.cell? ⟨w.heap.size, 1, none⟩ = some (.slice S sl.length d))
    (first
      | go_keep
      | exact ⟨(p1.cell (p := ⟨w.heap.size, 0, none⟩) hlt).trans k0, (p1.cell (p := ⟨w.heap.size, 1, none⟩) hlt).trans k1⟩
      | exact ⟨((p1.trans q2).cell (p := ⟨w.heap.size, 0, none⟩) hlt).trans k0, ((p1.trans q2).cell (p := ⟨w.heap.size, 1, none⟩) hlt).trans k1⟩)
    (first
      | (go_at_call 41; refine (hashN_any _ _ _ key _ rfl (by exact He.out) hkm).mono ?_; rintro e w' ⟨rfl, rfl⟩)
      | (go_at_call 42; refine (sameAsQ_any _ _ _ _ _ _ ks key _ rfl rfl (by exact Hk.out) (by exact He.out) Hs.out).mono ?_; rintro e w1 ⟨Bk, Be, rfl, q1, hC⟩; have HC := Lib.hid hC; clear hC; have p1 := (Q.refl W0).drew.trans q1)
      | (go_at_call 40; refine (seek_same _ _ _ sl _ (sameP ks key) Bk Be _ rfl (by exact ((HS.out.q (Nat.le_refl _) p1).more p1.size)) (hashN_lt _) (by omega) HC.out).mono ?_; rintro e w2 ⟨rfl, q2⟩; rw [Hsk.out]))
  have q02 := p1.trans q2
  have HB2 := Lib.hid (HB.out.q q02)
  have k1' := HB2.out.c1
  clear k0 k1 q1 q2 p1 HC
  go_wp2_with fail
  refine (clone_any _ _ _ sl _ rfl ((HS.out.q (Nat.le_refl _) q02).more q02.size) hsl).mono ?_
  rintro e w3 ⟨S3, d3, rfl, hS3, q3⟩
  have HS3 := Lib.hid hS3
  have q03 := q02.trans q3
  have HB3 := Lib.hid (HB2.out.q q3)
  have c0 := HB3.out.c0
  clear k1' hS3
  have Hkey : Hid (∀ W : World, Q W0 W → Keys (W.alloc (.cells #[.slice E key.length ce] 24)) (W.alloc (.cells #[.slice E key.length ce] 24)).heap.size (some ⟨W.heap.size, 0, none⟩) [key]) := fun W hW _ => by
    have q1 := (Q.refl W).alloc (.cells #[.slice E key.length ce] 24)
    refine ⟨_, rfl, by simp, fun i k hk => ?_⟩
    match i, hk with
    | 0, hk =>
      obtain rfl : key = k := by simpa using hk
      have q2 := hW.trans q1
      exact ⟨E, ce, hce, by rw [add_zero_head, cell_of_row _ _ _ _ _ _ (heap_alloc_new W _)]; rfl, (He.out.q (Nat.le_refl _) q2).more q2.size⟩
  have HN : Hid ((ks ++ [key]).length = ks.length + 1) := Lib.hid (by simp)
  have HT : Hid ((ks ++ [key]).flatten.length ≤ 60000) := Lib.hid (by rw [List.flatten_append, List.length_append]; simp only [List.flatten_cons, List.flatten_nil, List.append_nil]; omega)
  have HSz : Hid (∀ k ∈ ks ++ [key], k.length ≤ maxLen) := fun k hk => by
    rw [List.mem_append, List.mem_singleton] at hk
    rcases hk with h | rfl
    · exact Hs.out k h
    · exact hkm
  go_wp2_with fail
  refine (copyKeys_any _ _ _ _ _ _ ks [key] _ rfl rfl ((Hk.out.q (Nat.le_refl _) (q03.alloc _)).more (q03.alloc _).size) (Hkey.out w3 q03) (by rw [HN.out]; omega) (by have := HT.out; omega)).mono ?_
  rintro e w5 ⟨A5, c5, rfl, hK5, q5, hcp5⟩
  have Hcp5 := Lib.hid hcp5
  clear hcp5
  rw [HN.out]
  have q35 := ((Q.refl w3).alloc _).trans q5
  have q05 := q03.trans q35
  have HB5 := Lib.hid (HB3.out.q q35)
  have HK5 := Lib.hid hK5
  have hN := HN.out
  clear c0 hK5 q5

  have Hz : Hid (sizeN (ks.length + 1) = sl.length) := Lib.hid Hq.out.symm
  have hne : ((sl.length : Int) != (sl.length : Int)) = false := by simp
  obtain ⟨g3, rfl, hg3, ho3⟩ := HS3.out (by omega)
  have HO := Lib.hid (ho3.q q35)
  have h0 := (HO.out.at_ hsl2).1
  have h1 := (HO.out.at_ hsl2).2
  have hlt2 := HB2.out.lt
  clear ho3
  go_wp2_with fail
  refine (size1_any ks.length _ (by omega)).mono ?_
  rintro e w6 ⟨rfl, rfl⟩
  rw [Hz.out]
  go_upto_region 9 with fail
  have Hs2 := Lib.hid hsl2
  have HO7 := Lib.hid (HO.out.set Hs2.out ((ks.length : Int) + 1))
  have HB7 := Lib.hid (HB5.out.set (g := g3) (i := sn) (by omega) (.int .i64 ((ks.length : Int) + 1)))
  have q57 : Q w (w5.setCell ⟨g3, sn, none⟩ (.int .i64 ((ks.length : Int) + 1))) := (q0.trans q05).setCell (p := ⟨g3, sn, none⟩) (by show _ ≤ g3; omega) _
  have H57 : Hid (∀ p : Addr, p.block ≠ g3 → (w5.setCell ⟨g3, sn, none⟩ (.int .i64 ((ks.length : Int) + 1))).cell? p = w5.cell? p) := fun p hp => World.cell?_setCell_far _ _ _ _ (fun e => hp e.symm)
  have hz7 : w5.heap.size ≤ (w5.setCell ⟨g3, sn, none⟩ (.int .i64 ((ks.length : Int) + 1))).heap.size := by simp [World.setCell]
  clear h0 h1
  generalize w5.setCell ⟨g3, sn, none⟩ (.int .i64 ((ks.length : Int) + 1)) = w7 at *
  have r0 := HB7.out.r0
  have r1 := HB7.out.r1
  have f0 := HB7.out.f0
  have f1 := HB7.out.f1
  have c0 := HB7.out.c0
  have hg3' : g3 < w3.heap.size := by have := (HS3.out (by omega)); obtain ⟨g', e, _, o⟩ := this; injection e with e; injection e with e; subst e; exact o.1
  go_region
  all_goals go_wp2_with fail
  obtain ⟨y0, y1, _⟩ := set_two (w := w) (u := .slice A5 (ks.length + 1) c5) (v := .slice (some ⟨g3, 0, none⟩) sl.length d3) r0 r1
  have hlt3 := HB3.out.lt
  have hz3 := q35.size
  refine bodyPost_ret (v := .tuple #[.agg #[.slice A5 (ks.length + 1) c5, .slice (some ⟨g3, 0, none⟩) sl.length d3], .int .i64 ks.length, .bool true]) (by simp [results, Try.f25, go_sem, y0, y1]) rfl
    (putF_close (hcp := Hcp5.out) (w3 := w3.alloc (Obj.cells #[Value.slice E key.length ce] 24)) (w5 := w5) (w7 := w7) HN.out.symm (by rw [List.length_set]) rfl rfl rfl (by simp; omega) (by omega) HO7.out (fun p h1 h2 => H57.out p (by simp at h1; omega)) hz7 HK5.out q57 _)

theorem putF_any (A S E : Option Addr) (n c m d ke ce : Nat) (ks : List (List Int)) (key : List Int) (w : World) (hn : n = ks.length) (hm : m = (layI ks).length) (hke : ke = key.length) (hk : Keys w w.heap.size A ks) (hS : Ints w w.heap.size S (layI ks)) (he : Ints w w.heap.size E key)
    (hd : Dist ks) (hs : ∀ k ∈ ks, k.length ≤ maxLen) (hkl : key.length ≤ 5000) (hl : ks.length ≤ 5000) (ht : ks.flatten.length ≤ 50000) (hce : key.length ≤ ce) :
    Calls Try.prog 25 #[.agg #[.slice A n c, .slice S m d], .slice E ke ce] w (PutPostF (putL ks key) (layI (putL ks key)) (placeI ks key) (newB ks key) w) := by
  subst hn
  subst hm
  subst hke
  have hz : (layI ks).length ≤ 100000 := by rw [layI_length]; have := sizeN_le ks.length; omega
  rcases atI_cases ks key with ⟨h1, h2⟩ | ⟨i, h1, h2⟩
  · obtain ⟨h3, h4⟩ := find_not (lay_inv ks) (lay_lt ks) h2
    have e1 : putL ks key = ks ++ [key] := by unfold putL; rw [if_pos (by omega)]
    have e2 : placeI ks key = (ks.length : Int) := by unfold placeI; rw [if_pos (by omega)]
    have e3 : newB ks key = true := by unfold newB; exact decide_eq_true (by omega)
    rw [e1, e2, e3]
    by_cases hq : sizeN (ks.length + 1) = sizeN ks.length
    · rw [lay_snoc hq]
      exact putF_set A S E c d ce ks (layI ks) key w _ _ hk hS he hs hkl hz hl ht h4 hce (by omega) _ rfl h3 (by rw [layI_length, hq])
    · exact putF_lay2 A S E c d ce ks (layI ks) key w _ _ hk hS he hs hkl hz hl ht h4 hce (by omega) (by omega) (by rw [layI_length]; omega)
  · obtain ⟨s, h3, h4⟩ := find_there (lay_inv ks) hd (by omega) h1
    have e1 : putL ks key = ks := by unfold putL; rw [if_neg (by omega)]
    have e2 : placeI ks key = (i : Int) := by unfold placeI; rw [if_neg (by omega)]; exact h2
    have e3 : newB ks key = false := by unfold newB; exact decide_eq_false (by omega)
    rw [e1, e2, e3]
    exact putF_old A S E c d ce ks (layI ks) key w _ _ hk hS he hs hkl hz hl ht h4 (by omega)
end Go.Proofs.Ytjgbheidkjgncaa.Hs

namespace Go.Proofs.Ytjgbheidkjgncaa.Tm
open Go.RowKit Kit Hs

end Go.Proofs.Ytjgbheidkjgncaa.Tm

namespace Go.Proofs.Ytjgbheidkjgncaa.Tm
open Go.RowKit Kit Hs

end Go.Proofs.Ytjgbheidkjgncaa.Tm

namespace Go.Proofs.Ytjgbheidkjgncaa.Tm
open Go.RowKit Kit Hs

/-- block g holds these bools, from its head on, and may be written -/
def OwnB (w : World) (g : Nat) (mk : List Bool) : Prop := g < w.heap.size ∧ ∀ i b, mk[i]? = some b → w.cell? ⟨g, i, none⟩ = some (.bool b) ∧ w.frozen? ⟨g, i, none⟩ = false
theorem OwnB.q {w w' : World} {g : Nat} {mk : List Bool} (h : OwnB w g mk) (q : Q w w') : OwnB w' g mk :=
  ⟨Nat.lt_of_lt_of_le h.1 q.size, fun i x hx => ⟨(q.cell (p := ⟨g, i, none⟩) h.1).trans (h.2 i x hx).1, (q.frozen (p := ⟨g, i, none⟩) h.1).trans (h.2 i x hx).2⟩⟩
theorem OwnB.grown {w w' : World} {g : Nat} {mk : List Bool} {row : Option Nat} (h : OwnB w g mk) (hg : w.grownBy w' row) (hne : some g ≠ row) : OwnB w' g mk :=
  ⟨Nat.lt_of_lt_of_le h.1 hg.size, fun i x hx => ⟨(hg.cell_far ⟨g, i, none⟩ h.1 hne).trans (h.2 i x hx).1, (hg.frozen_far ⟨g, i, none⟩ h.1 hne).trans (h.2 i x hx).2⟩⟩
theorem OwnB.set {w : World} {g : Nat} {mk : List Bool} (h : OwnB w g mk) {s : Nat} (hs : s < mk.length) (v : Bool) : OwnB (w.setCell ⟨g, s, none⟩ (.bool v)) g (mk.set s v) := by
  refine ⟨by simp [World.setCell]; exact h.1, fun i x hx => ?_⟩
  rw [World.frozen?_setCell]
  have hc := h.2 s _ (List.getElem?_eq_getElem hs)
  by_cases hi : s = i
  · subst hi
    rw [List.getElem?_set_self hs] at hx
    obtain rfl : v = x := by simpa using hx
    exact ⟨setCell_eq hc.1, hc.2⟩
  · rw [List.getElem?_set_ne hi] at hx
    exact ⟨setCell_ne hi (h.2 i x hx).1, (h.2 i x hx).2⟩
theorem OwnB.made (w : World) (n : Nat) (t : TypeId) : OwnB (w.alloc (.cells (madeCells #[.bool false] n) t)) w.heap.size (List.replicate n false) := by
  refine ⟨by simp, fun i x hx => ?_⟩
  have hi : i < n := by have := (List.getElem?_eq_some_iff.1 hx).1; simpa using this
  have e : x = false := by rw [List.getElem?_replicate, if_pos hi] at hx; simpa using hx.symm
  subst e
  refine ⟨?_, World.frozen?_alloc_at _ _ _ _ rfl⟩
  rw [cell_of_row _ _ _ _ _ _ (heap_alloc_new w _)]
  simp [madeCells, hi, Nat.mod_one]
theorem boolInfo : (Try.prog.info? 4).map (fun i => (i.zero, i.size, i.bytes)) = some (some (.bool false), 1, 1) := by kernel_rfl
theorem make_bools (n : Nat) (hn : n ≤ 100000000) (u : World) : (Instr.makeSlice 88 (.int .i64 (n : Int)) (.int .i64 (n : Int))).run Try.prog u = .ok (.slice (some ⟨u.heap.size, 0, none⟩) n n) (u.alloc (.cells (madeCells #[.bool false] n) 4)) := by
  obtain ⟨i0, hi, hz0, hz1, hz2⟩ := info_parts boolInfo
  have h := run_make (P := Try.prog) u 88 4 i0 _ Try.underlying88 hi hz0 .i64 .i64 (n : Int) (n : Int) (by omega) (by omega) (by rw [hz2]; omega) (by omega)
  rw [hz1, Nat.mul_one] at h
  exact h
end Go.Proofs.Ytjgbheidkjgncaa.Tm

namespace Go.Proofs.Ytjgbheidkjgncaa.Tm
open Go.RowKit Kit Hs

end Go.Proofs.Ytjgbheidkjgncaa.Tm

namespace Go.Proofs.Ytjgbheidkjgncaa.Tm
open Go.RowKit Kit Hs

end Go.Proofs.Ytjgbheidkjgncaa.Tm

namespace Go.Proofs.Ytjgbheidkjgncaa.Tm
open Go.RowKit Kit Hs

theorem _root_.Go.Proofs.Ytjgbheidkjgncaa.Hs.Keys.take {w : World} {B : Nat} {A : Option Addr} {ks : List (List Int)} (h : Keys w B A ks) (n : Nat) : Keys w B A (ks.take n) := fun h0 => by
  obtain ⟨ad, e, hb, hc⟩ := h (by rw [List.length_take] at h0; omega)
  refine ⟨ad, e, hb, fun i k hk => hc i k ?_⟩
  rw [List.getElem?_take] at hk
  split at hk
  · exact hk
  · cases hk
end Go.Proofs.Ytjgbheidkjgncaa.Tm

namespace Go.Proofs.Ytjgbheidkjgncaa.Rw
open Go.RowKit Kit

/-- a slice value that reads these cells, below block B -/
def Rds (w : World) (B : Nat) (A : Option Addr) (cs : List Value) : Prop := 0 < cs.length → ∃ ad, A = some ad ∧ ad.block < B ∧ ∀ j v, cs[j]? = some v → w.cell? (ad.add j) = some v
theorem add_block (a : Addr) (n : Nat) : (a.add n).block = a.block := by unfold Addr.add; split <;> rfl
theorem add_succ (a : Addr) (n : Nat) : a.add (n + 1) = ⟨(a.add n).block, (a.add n).off + 1, none⟩ := by
  unfold Addr.add
  by_cases h : n = 0 <;> simp [h, Nat.add_assoc]
theorem add_zero_head (g j : Nat) : (⟨g, 0, none⟩ : Addr).add j = ⟨g, j, none⟩ := by
  unfold Addr.add
  by_cases h : j = 0 <;> simp [h]
theorem Rds.keep {w w' : World} {B : Nat} {A : Option Addr} {l : List Value} (h : Rds w B A l) (hb : Below B w w') : Rds w' B A l := fun h0 => by
  obtain ⟨ad, e, hlt, hc⟩ := h h0
  exact ⟨ad, e, hlt, fun i s hs => (hb.cell (by rw [add_block]; exact hlt)).trans (hc i s hs)⟩
theorem Rds.more {w : World} {B B' : Nat} {A : Option Addr} {l : List Value} (h : Rds w B A l) (hB : B ≤ B') : Rds w B' A l := fun h0 => by
  obtain ⟨ad, e, hlt, hc⟩ := h h0
  exact ⟨ad, e, by omega, hc⟩
theorem Rds.q {w w' : World} {A : Option Addr} {l : List Value} (h : Rds w w.heap.size A l) (q : Q w w') : Rds w' w'.heap.size A l := (h.keep q).more q.size
theorem Rds.nil (w : World) (B : Nat) (A : Option Addr) : Rds w B A [] := fun h => absurd h (by simp)

theorem Rds.src {w : World} {B : Nat} {A : Option Addr} {l : List Value} (h : Rds w B A l) : Src w A l := fun h0 => by
  obtain ⟨ad, e, _, hc⟩ := h h0
  exact ⟨ad, e, hc⟩

/-- block g holds these cells, from its head on, and may be written -/
def OwnC (w : World) (g : Nat) (cs : List Value) : Prop := g < w.heap.size ∧ ∀ j v, cs[j]? = some v → w.cell? ⟨g, j, none⟩ = some v ∧ w.frozen? ⟨g, j, none⟩ = false
theorem OwnC.rds {w : World} {g : Nat} {cs : List Value} (h : OwnC w g cs) : Rds w w.heap.size (some ⟨g, 0, none⟩) cs := fun _ => ⟨_, rfl, h.1, fun j v hv => by rw [add_zero_head]; exact (h.2 j v hv).1⟩
theorem OwnC.q {w w' : World} {g : Nat} {cs : List Value} (h : OwnC w g cs) (q : Q w w') : OwnC w' g cs :=
  ⟨Nat.lt_of_lt_of_le h.1 q.size, fun i x hx => ⟨(q.cell (p := ⟨g, i, none⟩) h.1).trans (h.2 i x hx).1, (q.frozen (p := ⟨g, i, none⟩) h.1).trans (h.2 i x hx).2⟩⟩
theorem OwnC.far {w : World} {g : Nat} {cs : List Value} (h : OwnC w g cs) {b i : Nat} (hb : b ≠ g) (u : Value) : OwnC (w.setCell ⟨b, i, none⟩ u) g cs :=
  ⟨by simpa [World.setCell] using h.1, fun j v hv => ⟨(World.cell?_setCell_far _ _ _ _ hb).trans (h.2 j v hv).1, by rw [World.frozen?_setCell]; exact (h.2 j v hv).2⟩⟩
theorem OwnC.grown {w w' : World} {g : Nat} {cs : List Value} {row : Option Nat} (h : OwnC w g cs) (hg : w.grownBy w' row) (hr : row ≠ some g) : OwnC w' g cs := by
  have hb := hg.block g h.1 (fun e => hr e.symm)
  exact ⟨Nat.lt_of_lt_of_le h.1 hg.size, fun j v hv => ⟨(World.cell?_of_block (a := ⟨g, j, none⟩) hb).trans (h.2 j v hv).1, (World.frozen?_of_block (a := ⟨g, j, none⟩) hb).trans (h.2 j v hv).2⟩⟩
theorem OwnC.take {w : World} {g : Nat} {cs : List Value} (h : OwnC w g cs) (n : Nat) : OwnC w g (cs.take n) :=
  ⟨h.1, fun j v hv => h.2 j v (by rw [List.getElem?_take] at hv; split at hv; exact hv; cases hv)⟩
theorem setCell_ne {W : World} {B i j : Nat} {v u : Value} (h : i ≠ j) (hc : W.cell? ⟨B, j, none⟩ = some u) : (W.setCell ⟨B, i, none⟩ v).cell? ⟨B, j, none⟩ = some u := by
  have := World.cell?_setCell_other (w := W) (a := ⟨B, i, none⟩) (b := ⟨B, j, none⟩) (v := v) (by intro e; injection e with _ e; exact h e)
  exact this.trans hc
theorem setCell_eq {W : World} {B i : Nat} {v u : Value} (hc : W.cell? ⟨B, i, none⟩ = some u) : (W.setCell ⟨B, i, none⟩ v).cell? ⟨B, i, none⟩ = some v := World.cell?_setCell_same' _ _ _ (by rw [hc]; rfl)
theorem OwnC.set {w : World} {g : Nat} {cs : List Value} (h : OwnC w g cs) {s : Nat} (hs : s < cs.length) (v : Value) : OwnC (w.setCell ⟨g, s, none⟩ v) g (cs.set s v) := by
  refine ⟨by simp [World.setCell]; exact h.1, fun i x hx => ?_⟩
  rw [World.frozen?_setCell]
  by_cases hi : s = i
  · subst hi
    rw [List.getElem?_set_self hs] at hx
    obtain rfl : v = x := by simpa using hx
    have := h.2 s _ (List.getElem?_eq_getElem hs)
    exact ⟨setCell_eq this.1, this.2⟩
  · rw [List.getElem?_set_ne hi] at hx
    exact ⟨setCell_ne hi (h.2 i x hx).1, (h.2 i x hx).2⟩
theorem OwnC.of_row {w : World} {base g n cap size : Nat} {e : TypeId} {cs : List Value} (h : w.ownsRow base e size (.slice (some ⟨g, 0, none⟩) n cap) n cs) : OwnC w g cs := by
  refine ⟨(h.lt g rfl).2, fun j v hv => ⟨?_, h.frozenAt j⟩⟩
  have := h.cells (g := g) rfl j v hv
  rwa [add_zero_head] at this
theorem setCell_grown (w : World) (g j : Nat) (u : Value) : w.grownBy (w.setCell ⟨g, j, none⟩ u) (some g) :=
  ⟨rfl, rfl, rfl, by simp [World.setCell], fun k _ hk => heap_setCell_other w ⟨g, j, none⟩ k u (fun e => hk (by simp [e]))⟩
theorem grown_trans {a b c : World} {row : Option Nat} (h : a.grownBy b row) (k : b.grownBy c row) : a.grownBy c row :=
  ⟨k.os.trans h.os, k.tape.trans h.tape, k.output.trans h.output, Nat.le_trans h.size k.size, fun i hi hr => (k.block i (Nat.lt_of_lt_of_le hi h.size) hr).trans (h.block i hi hr)⟩
theorem grows_q {a b : World} (q : Q a b) (row : Option Nat) : a.grownBy b row := ⟨q.os, q.tape, q.output, q.size, fun i hi _ => q.block i hi⟩
theorem grown_q {a b : World} {g : Nat} (h : a.grownBy b (some g)) {W : World} (hq : Q W a) (hg : W.heap.size ≤ g) : Q W b := Below.grown hq h hq.size (fun k e => by injection e with e; omega)

theorem row_kept {w w' : World} {base base' : Nat} {e : TypeId} {size : Nat} {v : Value} {n : Nat} {xs : List Value} (h : w.ownsRow base e size v n xs) (q : Q w w') (hb : base' ≤ base) : w'.ownsRow base' e size v n xs := by
  have h2 := h.kept (row := none) (grows_q q none) (by cases v.ownBlock <;> simp)
  obtain ⟨a, b⟩ := h2
  refine ⟨a, ?_⟩
  rcases b with b | ⟨g, cap, cur, r1, r2, r⟩
  · exact .inl b
  · exact .inr ⟨g, cap, cur, r1, Nat.le_trans hb r2, r⟩
theorem src_alloc (w : World) (cs : List Value) (t : TypeId) (fr : Nat × Nat) : Src (w.alloc (.cells cs.toArray t fr)) (some ⟨w.heap.size, 0, none⟩) cs := by
  have := src_block (heap_alloc_new w (.cells cs.toArray t fr))
  simpa using this
theorem own_nil (w : World) (base : Nat) (e : TypeId) (size : Nat) : w.ownsRow base e size (.slice none 0 0) 0 [] := ⟨by simp, .inl ⟨rfl, rfl⟩⟩
theorem own_read {w : World} {base size n : Nat} {e : TypeId} {v : Value} {cs : List Value} (h : w.ownsRow base e size v n cs) : ∃ A c, v = .slice A n c ∧ n ≤ c ∧ Rds w w.heap.size A cs := by
  have h2 := h
  obtain ⟨hl, ⟨rfl, h0⟩ | ⟨g, cap, cur, rfl, hg, hh, hc, _⟩⟩ := h
  · subst h0
    exact ⟨none, 0, rfl, by omega, fun h => by omega⟩
  · exact ⟨_, cap, rfl, hc, (OwnC.of_row h2).rds⟩
end Go.Proofs.Ytjgbheidkjgncaa.Rw

namespace Go.Proofs.Ytjgbheidkjgncaa.Rw
open Go.RowKit Kit

/-- any token as memory has it: its kind, its text, where it begins -/
abbrev Tg := Int × ByteArray × Int
/-- two texts are the same -/
def eqS (a b : ByteArray) : Bool := a.toList == b.toList
end Go.Proofs.Ytjgbheidkjgncaa.Rw

namespace Go.Proofs.Ytjgbheidkjgncaa.Nm
open Go.RowKit Kit

def inB (lo hi c : Int) : Bool := decide (lo ≤ c) && decide (c ≤ hi)

def goesB (c : Int) : Bool := inB 97 122 c || inB 65 90 c || inB 48 57 c || (c == 95)

def restB (l : List UInt8) : Bool := (l.drop 1).all fun c => goesB c.toNat
/-- a name whose first byte lies from lo to hi -/
def nameB (lo hi : Int) (l : List UInt8) : Bool :=
  match l with
  | [] => false
  | c :: _ => decide (l.length ≤ 20) && inB lo hi c.toNat && restB l

def letB (c : Int) : Bool := inB 97 122 c || inB 65 90 c
def figB (c : Int) : Bool := inB 48 57 c || (c == 95)
def okAt (k : Nat) (c : Int) : Bool := letB c || (!(k == 0) && figB c)
end Go.Proofs.Ytjgbheidkjgncaa.Nm

namespace Go.Proofs.Ytjgbheidkjgncaa.Ex
open Go.RowKit Kit Rw Go.Proofs.Ytjgbheidkjgncaa.Nm

theorem part_int (w : World) (xs : Array Value) (k : Nat) (x : Int) (h : xs[k]? = some (.int .i64 x)) : (part 3 xs k).run Try.prog w = .ok (.int .i64 x) w := run_part_plain w (by kernel_rfl) h
/-- how many parts a node has -/
def partsN (t : Tg) : Int := if t.1 = 6 then 1 else t.2.2
end Go.Proofs.Ytjgbheidkjgncaa.Ex

namespace Go.Proofs.Ytjgbheidkjgncaa.Ex
open Go.RowKit Kit Rw Go.Proofs.Ytjgbheidkjgncaa.Nm

inductive Ex where
  | mk (n : Tg) (ks : List Ex) : Ex
mutual
def Ex.nodes : Ex → List Tg
  | .mk n ks => nodesL ks ++ [n]
def nodesL : List Ex → List Tg
  | [] => []
  | e :: r => e.nodes ++ nodesL r
end
def Ex.size (e : Ex) : Nat := e.nodes.length
/-- how many parts, as a length -/
def np (t : Tg) : Nat := (partsN t).toNat
mutual
def Ex.wf : Ex → Prop
  | .mk n ks => ks.length = np n ∧ wfL ks
def wfL : List Ex → Prop
  | [] => True
  | e :: r => e.wf ∧ wfL r
end
end Go.Proofs.Ytjgbheidkjgncaa.Ex

namespace Go.Proofs.Ytjgbheidkjgncaa.Ex
open Go.RowKit Kit Rw Go.Proofs.Ytjgbheidkjgncaa.Nm

def cellsI (l : List Int) : List Value := l.map (Value.int .i64)
theorem cellsI_one (l : List Int) : ∀ u ∈ cellsI l, u.oneCell' = true := fun u hu => by
  obtain ⟨x, _, rfl⟩ := List.mem_map.1 hu; rfl
theorem intInfo : (Try.prog.info? 3).map (fun i => (i.zero, i.size, i.bytes)) = some (some (.int .i64 0), 1, 8) := by kernel_rfl
end Go.Proofs.Ytjgbheidkjgncaa.Ex

namespace Go.Proofs.Ytjgbheidkjgncaa.Ex
open Go.RowKit Kit Rw Go.Proofs.Ytjgbheidkjgncaa.Nm

end Go.Proofs.Ytjgbheidkjgncaa.Ex

namespace Go.Proofs.Ytjgbheidkjgncaa.Ex
open Go.RowKit Kit Rw
open Go.Proofs.Ytjgbheidkjgncaa.Sg (Sig findI)
theorem own_new8 (w : World) (cs : List Value) (t : TypeId) : OwnC (w.alloc (.cells cs.toArray t)) w.heap.size cs :=
  ⟨by simp, fun j v hv => ⟨by have := (src_alloc w cs t (0, 0)) (by have := (List.getElem?_eq_some_iff.1 hv).1; omega); obtain ⟨ad, e, h⟩ := this; injection e with e; subst e; have := h j v hv; rwa [add_zero_head] at this, World.frozen?_alloc_at _ _ _ _ rfl⟩⟩
end Go.Proofs.Ytjgbheidkjgncaa.Ex

namespace Go.Proofs.Ytjgbheidkjgncaa.Ex
open Go.RowKit Kit Rw Go.Proofs.Ytjgbheidkjgncaa.Nm

end Go.Proofs.Ytjgbheidkjgncaa.Ex

namespace Go.Proofs.Ytjgbheidkjgncaa.Ex
open Go.RowKit Kit Rw Go.Proofs.Ytjgbheidkjgncaa.Nm

end Go.Proofs.Ytjgbheidkjgncaa.Ex

namespace Go.Proofs.Ytjgbheidkjgncaa.Ex
open Go.RowKit Kit Rw
open Go.Proofs.Ytjgbheidkjgncaa.Sg (Sig findI)
end Go.Proofs.Ytjgbheidkjgncaa.Ex

namespace Go.Proofs.Ytjgbheidkjgncaa.Ld
open Go.RowKit Kit Rw
open Go.Proofs.Ytjgbheidkjgncaa.Sg (Sig findI)
open Go.Proofs.Ytjgbheidkjgncaa.Hs (Dist putL placeI newB atI atI_cases atI_some)

open Go.Proofs.Ytjgbheidkjgncaa.Ex (Ex np)
section
variable {L : List Sig} {ks : List (List Int)} {own : List ByteArray}
end

section
variable {L : List Sig} {ks : List (List Int)} {own : List ByteArray}
end
end Go.Proofs.Ytjgbheidkjgncaa.Ld

namespace Go.Proofs.Ytjgbheidkjgncaa.Ld
open Go.RowKit Kit Rw
open Go.Proofs.Ytjgbheidkjgncaa.Sg (Sig findI)
open Go.Proofs.Ytjgbheidkjgncaa.Nm (nameB)
open Go.Proofs.Ytjgbheidkjgncaa.Hs (Dist putL placeI newB atI atI_cases atI_some)

open Go.Proofs.Ytjgbheidkjgncaa.Ex (Ex np)
end Go.Proofs.Ytjgbheidkjgncaa.Ld

namespace Go.Proofs.Ytjgbheidkjgncaa.Tm
open Go.RowKit Kit Hs

end Go.Proofs.Ytjgbheidkjgncaa.Tm

namespace Go.Proofs.Ytjgbheidkjgncaa.Ld
open Go.RowKit Kit Rw
open Go.Proofs.Ytjgbheidkjgncaa.Sg (Sig findI)
open Go.Proofs.Ytjgbheidkjgncaa.Nm (nameB)
open Go.Proofs.Ytjgbheidkjgncaa.Hs (Dist putL placeI newB atI atI_cases atI_some)

open Go.Proofs.Ytjgbheidkjgncaa.Ex (Ex np)
section
variable {L : List Sig} {names : List ByteArray} {ks : List (List Int)}
end
end Go.Proofs.Ytjgbheidkjgncaa.Ld

namespace Go.Proofs.Ytjgbheidkjgncaa.St
open Go.RowKit Kit Rw
open Go.Proofs.Ytjgbheidkjgncaa.Sg (Sig)
open Go.Proofs.Ytjgbheidkjgncaa.Tm (partsN)

abbrev PI := Int × Int
end Go.Proofs.Ytjgbheidkjgncaa.St

namespace Go.Proofs.Ytjgbheidkjgncaa.St
open Go.RowKit Kit Rw
open Go.Proofs.Ytjgbheidkjgncaa.Sg (Sig)

abbrev B3 := Bool × Bool × Bool
section
variable {L : List Sig} {ks : List (List Int)}
end
end Go.Proofs.Ytjgbheidkjgncaa.St

namespace Go.Proofs.Ytjgbheidkjgncaa.St
open Go.RowKit Kit Rw
open Go.Proofs.Ytjgbheidkjgncaa.Sg (Sig)

section
variable {L : List Sig} {ks : List (List Int)}
/-- pairs in order -/
def ltP (a b : PI) : Prop := a.1 < b.1 ∨ (a.1 = b.1 ∧ a.2 < b.2)
instance (a b : PI) : Decidable (ltP a b) := by unfold ltP; infer_instance
theorem ltP_irrefl (a : PI) : ¬ ltP a a := by unfold ltP; omega
theorem ltP_trans {a b c : PI} (h : ltP a b) (k : ltP b c) : ltP a c := by unfold ltP at *; omega
theorem ltP_tri (a b : PI) : ltP a b ∨ a = b ∨ ltP b a := by
  unfold ltP
  rw [Prod.ext_iff]
  omega
/-- two rising rows with the same pairs are the same -/
theorem rise_same : ∀ {l m : List PI}, l.Pairwise ltP → m.Pairwise ltP → (∀ z, z ∈ l ↔ z ∈ m) → l = m
  | [], [], _, _, _ => rfl
  | [], b :: m, _, _, h => by have := (h b).2 (by simp); cases this
  | a :: l, [], _, _, h => by have := (h a).1 (by simp); cases this
  | a :: l, b :: m, hl, hm, h => by
    obtain ⟨l1, l2⟩ := List.pairwise_cons.1 hl
    obtain ⟨m1, m2⟩ := List.pairwise_cons.1 hm
    have hab : a = b := by
      rcases List.mem_cons.1 ((h a).1 (by simp)) with e | e
      · exact e
      · rcases List.mem_cons.1 ((h b).2 (by simp)) with e' | e'
        · exact e'.symm
        · exact absurd (ltP_trans (l1 b e') (m1 a e)) (ltP_irrefl _)
    subst hab
    rw [rise_same l2 m2]
    intro z
    constructor
    · intro hz
      rcases List.mem_cons.1 ((h z).1 (by simp [hz])) with e | e
      · subst e; exact absurd (l1 z hz) (ltP_irrefl _)
      · exact e
    · intro hz
      rcases List.mem_cons.1 ((h z).2 (by simp [hz])) with e | e
      · subst e; exact absurd (m1 z hz) (ltP_irrefl _)
      · exact e
end
end Go.Proofs.Ytjgbheidkjgncaa.St

namespace Go.Proofs.Ytjgbheidkjgncaa.St
open Go.RowKit Kit Rw
open Go.Proofs.Ytjgbheidkjgncaa.Sg (Sig)

def layP : List PI → PI → List PI
  | [], p => [p]
  | a :: l, p => if ltP a p then a :: layP l p else if a = p then a :: l else p :: a :: l
theorem layP_mem {z p : PI} : ∀ {l : List PI}, z ∈ layP l p ↔ z ∈ l ∨ z = p
  | [] => by simp [layP]
  | a :: l => by
    unfold layP
    split
    · rw [List.mem_cons, layP_mem, List.mem_cons, or_assoc]
    · split
      · rename_i h
        subst h
        constructor
        · exact fun h => .inl h
        · rintro (h | rfl)
          · exact h
          · simp
      · rw [List.mem_cons]
        constructor
        · rintro (h | h)
          · exact .inr h
          · exact .inl h
        · rintro (h | h)
          · exact .inr h
          · exact .inl h
theorem layP_rise {p : PI} : ∀ {l : List PI}, l.Pairwise ltP → (layP l p).Pairwise ltP
  | [], _ => by simp [layP]
  | a :: l, h => by
    obtain ⟨h1, h2⟩ := List.pairwise_cons.1 h
    unfold layP
    split
    · rename_i hap
      refine List.pairwise_cons.2 ⟨fun z hz => ?_, layP_rise h2⟩
      rcases layP_mem.1 hz with hz | rfl
      · exact h1 z hz
      · exact hap
    · rename_i hap
      split
      · exact h
      · rename_i hne
        have hpa : ltP p a := by
          rcases ltP_tri p a with h | h | h
          · exact h
          · exact absurd h.symm hne
          · exact absurd h hap
        refine List.pairwise_cons.2 ⟨fun z hz => ?_, h⟩
        rcases List.mem_cons.1 hz with rfl | hz
        · exact hpa
        · exact ltP_trans hpa (h1 z hz)
/-- how many are ahead of a pair -/
def cutP : List PI → PI → Nat
  | [], _ => 0
  | a :: l, p => if ltP a p then cutP l p + 1 else 0
theorem layP_cut (p : PI) : ∀ (l : List PI), layP l p = l.take (cutP l p) ++ (if l[cutP l p]? = some p then [] else [p]) ++ l.drop (cutP l p)
  | [] => by simp [layP, cutP]
  | a :: l => by
    unfold layP cutP
    by_cases h : ltP a p
    · rw [if_pos h, if_pos h, List.take_succ_cons, List.drop_succ_cons, List.getElem?_cons_succ, layP_cut p l]
      simp
    · rw [if_neg h, if_neg h]
      by_cases he : a = p
      · rw [if_pos he, he]; simp
      · rw [if_neg he]; simp [he]
theorem cutP_le (p : PI) : ∀ (l : List PI), cutP l p ≤ l.length
  | [] => Nat.le_refl _
  | a :: l => by
    unfold cutP
    split
    · have := cutP_le p l; simp; omega
    · omega
theorem layP_len (p : PI) (l : List PI) : (layP l p).length ≤ l.length + 1 := by
  rw [layP_cut]
  have := cutP_le p l
  rw [List.length_append, List.length_append, List.length_take, List.length_drop]
  split <;> simp <;> omega

section
variable {L : List Sig} {ks : List (List Int)}
end
end Go.Proofs.Ytjgbheidkjgncaa.St
