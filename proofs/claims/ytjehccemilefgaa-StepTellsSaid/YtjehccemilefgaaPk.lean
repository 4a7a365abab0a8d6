/-
  What the proofs lean on, part 11 of 11.
-/
import Derived.Test.YtjehccemilefgaaPe
import Derived.Test.YtjehccemilefgaaPh
import Derived.Test.YtjehccemilefgaaPj
import Derived.Deep.DeepCutAuto
namespace Go.Proofs.Ytjehccemilefgaa.St
open Go.RowKit Kit Rw
open Go.Proofs.Ytjehccemilefgaa.Sg (Sig Row)
open Go.Proofs.Ytjehccemilefgaa.Hs (Ints Keys BoxT OwnI rdF_dist refLay_any)
open Go.Proofs.Ytjehccemilefgaa.Tm (Tm Store Box4 isPl isPl_iff stF stF_get)
def ex10L : List Sig := [(⟨#[99]⟩, ⟨#[43]⟩)]
def ex10K : List (List Int) := [[0, 0, 0], [1, 0, 0], [2, 0, 0], [3, 0, 0, 2], [3, 0, 0, 1]]
theorem ex10_store : Store ex10L ex10K := ⟨rdF_dist rfl, by decide, fun i key hk => by
  have h : stF ex10L ex10K 0 = true := rfl
  have := stF_get h i key hk
  rwa [Nat.zero_add] at this⟩
theorem ex10_a : stepF ex10L ex10K 3 4 = (1, [(2, 1)]) := rfl
theorem ex10_b : stepF ex10L ex10K 2 3 = (2, []) := rfl
theorem ex10_c : stepF ex10L ex10K 1 3 = (3, []) := rfl
theorem ex10_d : sidedF ex10L ex10K 3 76 = true := rfl
theorem own_ints {w : World} {B : Nat} {l : List Int} (h : OwnC w B (l.map fun x => Value.int .i64 x)) : Ints w w.heap.size (some ⟨B, 0, none⟩) l := fun _ => ⟨_, rfl, h.1, fun i x hx => by
  rw [Hs.add_zero_head]
  exact (h.2 i _ (by rw [List.getElem?_map, hx]; rfl)).1⟩
theorem ex10_row (w : World) : Row (w.alloc (Obj.cells #[.string ⟨#[99]⟩, .string ⟨#[43]⟩] 55)) (w.alloc (Obj.cells #[.string ⟨#[99]⟩, .string ⟨#[43]⟩] 55)).heap.size (some ⟨w.heap.size, 0, none⟩) ex10L := fun _ => by
  have hO := Ex.own_new8 w [.string ⟨#[99]⟩, .string ⟨#[43]⟩] 55
  refine ⟨_, rfl, hO.1, fun i s hs => ?_⟩
  match i, hs with
  | 0, hs =>
    obtain rfl : ((⟨#[99]⟩, ⟨#[43]⟩) : Sig) = s := by simpa [ex10L] using hs
    exact ⟨(hO.2 0 _ rfl).1, (hO.2 1 _ rfl).1⟩
  | i + 1, hs => simp [ex10L] at hs
theorem ex10_keys (W0 : World) : Keys ((((((W0.alloc (Obj.cells #[.int .i64 0, .int .i64 0, .int .i64 0] 3)).alloc (Obj.cells #[.int .i64 1, .int .i64 0, .int .i64 0] 3)).alloc (Obj.cells #[.int .i64 2, .int .i64 0, .int .i64 0] 3)).alloc (Obj.cells #[.int .i64 3, .int .i64 0, .int .i64 0, .int .i64 2] 3)).alloc (Obj.cells #[.int .i64 3, .int .i64 0, .int .i64 0, .int .i64 1] 3)).alloc (Obj.cells #[.slice (some ⟨W0.heap.size, 0, none⟩) 3 3, .slice (some ⟨(W0.heap.size + 1), 0, none⟩) 3 3, .slice (some ⟨(W0.heap.size + 1 + 1), 0, none⟩) 3 3, .slice (some ⟨(W0.heap.size + 1 + 1 + 1), 0, none⟩) 4 4, .slice (some ⟨(W0.heap.size + 1 + 1 + 1 + 1), 0, none⟩) 4 4] 24)) ((((((W0.alloc (Obj.cells #[.int .i64 0, .int .i64 0, .int .i64 0] 3)).alloc (Obj.cells #[.int .i64 1, .int .i64 0, .int .i64 0] 3)).alloc (Obj.cells #[.int .i64 2, .int .i64 0, .int .i64 0] 3)).alloc (Obj.cells #[.int .i64 3, .int .i64 0, .int .i64 0, .int .i64 2] 3)).alloc (Obj.cells #[.int .i64 3, .int .i64 0, .int .i64 0, .int .i64 1] 3)).alloc (Obj.cells #[.slice (some ⟨W0.heap.size, 0, none⟩) 3 3, .slice (some ⟨(W0.heap.size + 1), 0, none⟩) 3 3, .slice (some ⟨(W0.heap.size + 1 + 1), 0, none⟩) 3 3, .slice (some ⟨(W0.heap.size + 1 + 1 + 1), 0, none⟩) 4 4, .slice (some ⟨(W0.heap.size + 1 + 1 + 1 + 1), 0, none⟩) 4 4] 24)).heap.size (some ⟨W0.heap.size + 1 + 1 + 1 + 1 + 1, 0, none⟩) ex10K ∧ Q W0 ((((((W0.alloc (Obj.cells #[.int .i64 0, .int .i64 0, .int .i64 0] 3)).alloc (Obj.cells #[.int .i64 1, .int .i64 0, .int .i64 0] 3)).alloc (Obj.cells #[.int .i64 2, .int .i64 0, .int .i64 0] 3)).alloc (Obj.cells #[.int .i64 3, .int .i64 0, .int .i64 0, .int .i64 2] 3)).alloc (Obj.cells #[.int .i64 3, .int .i64 0, .int .i64 0, .int .i64 1] 3)).alloc (Obj.cells #[.slice (some ⟨W0.heap.size, 0, none⟩) 3 3, .slice (some ⟨(W0.heap.size + 1), 0, none⟩) 3 3, .slice (some ⟨(W0.heap.size + 1 + 1), 0, none⟩) 3 3, .slice (some ⟨(W0.heap.size + 1 + 1 + 1), 0, none⟩) 4 4, .slice (some ⟨(W0.heap.size + 1 + 1 + 1 + 1), 0, none⟩) 4 4] 24)) := by
  have o0 := Ex.own_new8 W0 [.int .i64 0, .int .i64 0, .int .i64 0] 3
  have q0 := (Q.refl W0).alloc (Obj.cells #[.int .i64 0, .int .i64 0, .int .i64 0] 3)
  have z0 : (W0.alloc (Obj.cells #[.int .i64 0, .int .i64 0, .int .i64 0] 3)).heap.size = W0.heap.size + 1 := by simp
  generalize W0.alloc (Obj.cells #[.int .i64 0, .int .i64 0, .int .i64 0] 3) = X1 at *
  have o1 := Ex.own_new8 X1 [.int .i64 1, .int .i64 0, .int .i64 0] 3
  have q1 := (Q.refl X1).alloc (Obj.cells #[.int .i64 1, .int .i64 0, .int .i64 0] 3)
  have z1 : (X1.alloc (Obj.cells #[.int .i64 1, .int .i64 0, .int .i64 0] 3)).heap.size = X1.heap.size + 1 := by simp
  generalize X1.alloc (Obj.cells #[.int .i64 1, .int .i64 0, .int .i64 0] 3) = X2 at *
  have o2 := Ex.own_new8 X2 [.int .i64 2, .int .i64 0, .int .i64 0] 3
  have q2 := (Q.refl X2).alloc (Obj.cells #[.int .i64 2, .int .i64 0, .int .i64 0] 3)
  have z2 : (X2.alloc (Obj.cells #[.int .i64 2, .int .i64 0, .int .i64 0] 3)).heap.size = X2.heap.size + 1 := by simp
  generalize X2.alloc (Obj.cells #[.int .i64 2, .int .i64 0, .int .i64 0] 3) = X3 at *
  have o3 := Ex.own_new8 X3 [.int .i64 3, .int .i64 0, .int .i64 0, .int .i64 2] 3
  have q3 := (Q.refl X3).alloc (Obj.cells #[.int .i64 3, .int .i64 0, .int .i64 0, .int .i64 2] 3)
  have z3 : (X3.alloc (Obj.cells #[.int .i64 3, .int .i64 0, .int .i64 0, .int .i64 2] 3)).heap.size = X3.heap.size + 1 := by simp
  generalize X3.alloc (Obj.cells #[.int .i64 3, .int .i64 0, .int .i64 0, .int .i64 2] 3) = X4 at *
  have o4 := Ex.own_new8 X4 [.int .i64 3, .int .i64 0, .int .i64 0, .int .i64 1] 3
  have q4 := (Q.refl X4).alloc (Obj.cells #[.int .i64 3, .int .i64 0, .int .i64 0, .int .i64 1] 3)
  have z4 : (X4.alloc (Obj.cells #[.int .i64 3, .int .i64 0, .int .i64 0, .int .i64 1] 3)).heap.size = X4.heap.size + 1 := by simp
  generalize X4.alloc (Obj.cells #[.int .i64 3, .int .i64 0, .int .i64 0, .int .i64 1] 3) = X5 at *
  have e1 : X1.heap.size = W0.heap.size + 1 := z0
  have e2 : X2.heap.size = W0.heap.size + 1 + 1 := by omega
  have e3 : X3.heap.size = W0.heap.size + 1 + 1 + 1 := by omega
  have e4 : X4.heap.size = W0.heap.size + 1 + 1 + 1 + 1 := by omega
  have e5 : X5.heap.size = W0.heap.size + 1 + 1 + 1 + 1 + 1 := by omega
  have o5 := Ex.own_new8 X5 [.slice (some ⟨W0.heap.size, 0, none⟩) 3 3, .slice (some ⟨(W0.heap.size + 1), 0, none⟩) 3 3, .slice (some ⟨(W0.heap.size + 1 + 1), 0, none⟩) 3 3, .slice (some ⟨(W0.heap.size + 1 + 1 + 1), 0, none⟩) 4 4, .slice (some ⟨(W0.heap.size + 1 + 1 + 1 + 1), 0, none⟩) 4 4] 24
  have q5 := (Q.refl X5).alloc (Obj.cells #[.slice (some ⟨W0.heap.size, 0, none⟩) 3 3, .slice (some ⟨(W0.heap.size + 1), 0, none⟩) 3 3, .slice (some ⟨(W0.heap.size + 1 + 1), 0, none⟩) 3 3, .slice (some ⟨(W0.heap.size + 1 + 1 + 1), 0, none⟩) 4 4, .slice (some ⟨(W0.heap.size + 1 + 1 + 1 + 1), 0, none⟩) 4 4] 24)
  rw [e5] at o5
  rw [e1] at o1
  rw [e2] at o2
  rw [e3] at o3
  rw [e4] at o4
  generalize X5.alloc (Obj.cells #[.slice (some ⟨W0.heap.size, 0, none⟩) 3 3, .slice (some ⟨(W0.heap.size + 1), 0, none⟩) 3 3, .slice (some ⟨(W0.heap.size + 1 + 1), 0, none⟩) 3 3, .slice (some ⟨(W0.heap.size + 1 + 1 + 1), 0, none⟩) 4 4, .slice (some ⟨(W0.heap.size + 1 + 1 + 1 + 1), 0, none⟩) 4 4] 24) = X6 at *
  have q45 := q4.trans q5
  have q35 := q3.trans q45
  have q25 := q2.trans q35
  have q15 := q1.trans q25
  refine ⟨fun _ => ⟨_, rfl, o5.1, fun i k hk => ?_⟩, q0.trans q15⟩
  match i, hk with
  | 0, hk =>
    obtain rfl : [0, 0, 0] = k := by simpa [ex10K] using hk
    exact ⟨some ⟨W0.heap.size, 0, none⟩, 3, Nat.le_refl _, by rw [Hs.add_zero_head]; exact (o5.2 0 _ rfl).1, own_ints (l := [0, 0, 0]) (o0.q q15)⟩
  | 1, hk =>
    obtain rfl : [1, 0, 0] = k := by simpa [ex10K] using hk
    exact ⟨some ⟨(W0.heap.size + 1), 0, none⟩, 3, Nat.le_refl _, by rw [Hs.add_zero_head]; exact (o5.2 1 _ rfl).1, own_ints (l := [1, 0, 0]) (o1.q q25)⟩
  | 2, hk =>
    obtain rfl : [2, 0, 0] = k := by simpa [ex10K] using hk
    exact ⟨some ⟨(W0.heap.size + 1 + 1), 0, none⟩, 3, Nat.le_refl _, by rw [Hs.add_zero_head]; exact (o5.2 2 _ rfl).1, own_ints (l := [2, 0, 0]) (o2.q q35)⟩
  | 3, hk =>
    obtain rfl : [3, 0, 0, 2] = k := by simpa [ex10K] using hk
    exact ⟨some ⟨(W0.heap.size + 1 + 1 + 1), 0, none⟩, 4, Nat.le_refl _, by rw [Hs.add_zero_head]; exact (o5.2 3 _ rfl).1, own_ints (l := [3, 0, 0, 2]) (o3.q q45)⟩
  | 4, hk =>
    obtain rfl : [3, 0, 0, 1] = k := by simpa [ex10K] using hk
    exact ⟨some ⟨(W0.heap.size + 1 + 1 + 1 + 1), 0, none⟩, 4, Nat.le_refl _, by rw [Hs.add_zero_head]; exact (o5.2 4 _ rfl).1, own_ints (l := [3, 0, 0, 1]) (o4.q q5)⟩
  | i + 5, hk => simp [ex10K] at hk
theorem field_way (k : Int) (A : Option Addr) (n c : Nat) (u : World) : (Instr.field 33 (.agg #[.int .i64 k, .slice A n c]) 0).run Try.prog u = .ok (.int .i64 k) u := by kernel_rfl
set_option maxRecDepth 100000 in
set_option maxHeartbeats 4000000 in
theorem shown10_any (w : World) : Calls Try.prog 9 #[] w fun e w' => e = .returned (.bool true) ∧ Q w w' := by
  have HR0 := Lib.hid (ex10_row w)
  have HQ0 := Lib.hid ((Q.refl w).alloc (Obj.cells #[.string ⟨#[99]⟩, .string ⟨#[43]⟩] 55))
  go_enter Try.func9, Try.ntmps9
  go_upto_region 2 with fail
  generalize w.alloc (Obj.cells #[.string ⟨#[99]⟩, .string ⟨#[43]⟩] 55) = W0 at *
  obtain ⟨hk, hq⟩ := ex10_keys W0
  have HK := Lib.hid hk
  have HQ1 := Lib.hid hq
  clear hk hq
  go_upto_region 3 with fail
  generalize hX : ((((((W0.alloc (Obj.cells #[.int .i64 0, .int .i64 0, .int .i64 0] 3)).alloc (Obj.cells #[.int .i64 1, .int .i64 0, .int .i64 0] 3)).alloc (Obj.cells #[.int .i64 2, .int .i64 0, .int .i64 0] 3)).alloc (Obj.cells #[.int .i64 3, .int .i64 0, .int .i64 0, .int .i64 2] 3)).alloc (Obj.cells #[.int .i64 3, .int .i64 0, .int .i64 0, .int .i64 1] 3)).alloc (Obj.cells #[.slice (some ⟨W0.heap.size, 0, none⟩) 3 3, .slice (some ⟨(W0.heap.size + 1), 0, none⟩) 3 3, .slice (some ⟨(W0.heap.size + 1 + 1), 0, none⟩) 3 3, .slice (some ⟨(W0.heap.size + 1 + 1 + 1), 0, none⟩) 4 4, .slice (some ⟨(W0.heap.size + 1 + 1 + 1 + 1), 0, none⟩) 4 4] 24)) = X6 at *
  clear hX
  go_wp2_with fail
  refine (refLay_any _ _ _ ex10K X6 rfl HK.out (by decide) (by decide)).mono ?_
  rintro e w1 ⟨g, rfl, _, _, q1⟩
  have qb := q1.alloc (Obj.cells #[.slice (some ⟨W0.heap.size + 1 + 1 + 1 + 1 + 1, 0, none⟩) 5 5, .slice (some ⟨g, 0, none⟩) (Hs.sizeN ex10K.length) (Hs.sizeN ex10K.length)] 26)
  have HT := Lib.hid (BoxT.new w1 (.slice (some ⟨W0.heap.size + 1 + 1 + 1 + 1 + 1, 0, none⟩) 5 5) (.slice (some ⟨g, 0, none⟩) (Hs.sizeN ex10K.length) (Hs.sizeN ex10K.length)) 26)
  have hrow := HR0.out
  have CO : ∀ U z v, Q W0 U → Q X6 U → Calls Try.prog 11 #[.slice (some ⟨w.heap.size, 0, none⟩) 1 1, .agg #[.slice (some ⟨W0.heap.size + 1 + 1 + 1 + 1 + 1, 0, none⟩) 5 5, .slice (some ⟨g, 0, none⟩) (Hs.sizeN ex10K.length) (Hs.sizeN ex10K.length)], .int .i64 z, .int .i64 v] U (WayPost (stepF ex10L ex10K z v) U) := fun U z v p p2 => step10_any _ _ _ 1 1 5 5 _ _ ex10L ex10K z v U rfl ((hrow.q (Nat.le_refl _) p).more p.size) rfl ((HK.out.q (Nat.le_refl _) p2).more p2.size) ex10_store (by decide) (by decide) (by decide)
  have C1 := Lib.hid (fun U p p2 => CO U 3 4 p p2)
  have C2 := Lib.hid (fun U p p2 => CO U 2 3 p p2)
  have C3 := Lib.hid (fun U p p2 => CO U 1 3 p p2)
  have C4 : Hid (∀ U, Q W0 U → Q X6 U → Calls Try.prog 14 #[.slice (some ⟨w.heap.size, 0, none⟩) 1 1, .agg #[.slice (some ⟨W0.heap.size + 1 + 1 + 1 + 1 + 1, 0, none⟩) 5 5, .slice (some ⟨g, 0, none⟩) (Hs.sizeN ex10K.length) (Hs.sizeN ex10K.length)], .int .i64 3, .int .u8 76] U fun e w' => e = .returned (.bool true) ∧ Q U w') := fun U p p2 => by
    have := sided10_any (some ⟨w.heap.size, 0, none⟩) (some ⟨W0.heap.size + 1 + 1 + 1 + 1 + 1, 0, none⟩) (some ⟨g, 0, none⟩) 1 1 5 5 (Hs.sizeN ex10K.length) (Hs.sizeN ex10K.length) ex10L ex10K 3 76 U rfl ((hrow.q (Nat.le_refl _) p).more p.size) rfl ((HK.out.q (Nat.le_refl _) p2).more p2.size) ex10_store (by decide) (by decide) (by decide) (by decide)
    rw [ex10_d] at this
    exact this
  unfold Hid at C1 C2 C3
  simp only [ex10_a, ex10_b, ex10_c] at C1 C2 C3
  have D1 := Lib.hid C1
  have D2 := Lib.hid C2
  have D3 := Lib.hid C3
  have HQX := Lib.hid qb
  generalize Hs.sizeN ex10K.length = sN at *
  clear CO C1 C2 C3 hrow q1 qb
  go_upto_region 4 with fail
  generalize w1.alloc (Obj.cells #[.slice (some ⟨W0.heap.size + 1 + 1 + 1 + 1 + 1, 0, none⟩) 5 5, .slice (some ⟨g, 0, none⟩) sN sN] 26) = W2 at *
  have b0 := HT.out.c0
  have b1 := HT.out.c1
  go_wp2_with fail
  refine (D1.out W2 (HQ1.out.trans HQX.out) HQX.out).mono ?_
  rintro e w3 ⟨A3, c3, rfl, hr3, q3, _⟩
  obtain ⟨ad, rfl, had, e0, e1⟩ := pair_at hr3 (k := 0) (by decide)
  have q4 := (Q.refl w3).alloc (Obj.cells #[.int .i64 1, .slice (some ad) 1 c3] 33)
  have HBW := Lib.hid (Ex.own_new8 w3 [.int .i64 1, .slice (some ad) 1 c3] 33)
  have HT4 := Lib.hid ((HT.out.q q3).q q4)
  have HX4 := Lib.hid ((HQX.out.trans q3).trans q4)
  have f0 : (w3.alloc (Obj.cells #[.int .i64 1, .slice (some ad) 1 c3] 33)).cell? ad = some (.int .i64 2) := (q4.cell (p := ad) had).trans (by simpa [Addr.add] using e0)
  have f1 : (w3.alloc (Obj.cells #[.int .i64 1, .slice (some ad) 1 c3] 33)).cell? ⟨ad.block, ad.off + 1, none⟩ = some (.int .i64 1) := (q4.cell (p := ⟨ad.block, ad.off + 1, none⟩) had).trans (by simpa [Addr.add] using e1)
  clear e0 e1 b0 b1 hr3 q3 q4 HT HQX had
  have hfld := field_way
  have heq : ∀ u, (binOp .eql 46 (.agg #[.int .i64 2, .int .i64 1]) (.agg #[.int .i64 2, .int .i64 1])).run Try.prog u = .ok (.bool true) u := fun u => run_eql_pair u (2, 1) (2, 1)
  go_upto_region 5 with fail
  generalize w3.alloc (Obj.cells #[.int .i64 1, .slice (some ad) 1 c3] 33) = W4 at *
  have k0 := (HBW.out.2 0 _ rfl).1
  have k1 := (HBW.out.2 1 _ rfl).1
  have b0 := HT4.out.c0
  have b1 := HT4.out.c1
  go_wp2_with fail
  refine (D2.out _ (HQ1.out.trans HX4.out) HX4.out).mono ?_
  rintro e w5 ⟨A5, c5, rfl, _, q5, _⟩
  have HX5 := Lib.hid (HX4.out.trans q5)
  have HT5 := Lib.hid (HT4.out.q q5)
  clear b0 b1 k0 k1 f0 f1 q5
  have b0 := HT5.out.c0
  have b1 := HT5.out.c1
  go_wp2_with fail
  refine (D3.out _ (HQ1.out.trans HX5.out) HX5.out).mono ?_
  rintro e w6 ⟨A6, c6, rfl, _, q6, _⟩
  have HX6 := Lib.hid (HX5.out.trans q6)
  have HT6 := Lib.hid (HT5.out.q q6)
  clear b0 b1 q6
  have b0 := HT6.out.c0
  have b1 := HT6.out.c1
  go_wp2_with fail
  refine (C4.out _ (HQ1.out.trans HX6.out) HX6.out).mono ?_
  rintro e w7 ⟨rfl, q7⟩
  have HX7 := Lib.hid (HX6.out.trans q7)
  go_wp2_with fail
  go_ret
  exact ⟨rfl, HQ0.out.trans (HQ1.out.trans HX7.out)⟩
end Go.Proofs.Ytjehccemilefgaa.St

namespace Go.Proofs.Ytjehccemilefgaa.St
open Go.RowKit Kit Rw
open Go.Proofs.Ytjehccemilefgaa.Sg (Sig Row)
open Go.Proofs.Ytjehccemilefgaa.Tm (Store of10B store_iff Wf)
open Go.Proofs.Ytjehccemilefgaa.Hs (few_sum mem_len fewB)
theorem right10_at {L : List Sg.Sig} (h : Sg.rightB L = true) : ∀ (j : Nat) (hj : j < L.length), Sg.conB L[j].1 = true ∧ Sg.partsB L[j].2 = true ∧ Sg.findI L[j].1 L 0 = (j : Int) := by
  unfold Sg.rightB at h
  rw [Bool.and_eq_true] at h
  have all : ∀ (m k : Nat), k + m = L.length → Sg.rightG L (L.drop k) k = true → ∀ (j : Nat) (hj : j < L.length), k ≤ j → Sg.conB L[j].1 = true ∧ Sg.partsB L[j].2 = true ∧ Sg.findI L[j].1 L 0 = (j : Int) := by
    intro m
    induction m with
    | zero => intro k hk _ j hj hkj; omega
    | succ m ih =>
      intro k hk hg j hj hkj
      have hkl : k < L.length := by omega
      rw [Sg.rightG_at L L k hkl, Bool.and_eq_true, Bool.and_eq_true, Bool.and_eq_true, beq_iff_eq] at hg
      obtain ⟨⟨⟨h1, h2⟩, h3⟩, h4⟩ := hg
      rcases Nat.lt_or_eq_of_le hkj with h5 | h5
      · exact ih (k + 1) (by omega) h4 j hj h5
      · subst h5; exact ⟨h1, h2, h3⟩
  exact fun j hj => all L.length 0 (by omega) (by simpa using h.2) j hj (Nat.zero_le _)
theorem of10_ok {L : List Sig} {ks : List (List Int)} {sl : List Int} (h : of10B L ks sl = true) : Store L ks ∧ (∀ s ∈ L, s.2.size ≤ 8) ∧ (∀ k ∈ ks, k.length ≤ 100000) ∧ ks.length ≤ 2000 := by
  unfold of10B at h
  simp only [Bool.and_eq_true] at h
  obtain ⟨⟨⟨_, hR⟩, hf⟩, hst⟩ := h
  have hsum := few_sum hf
  refine ⟨((store_iff _ _ _).1 hst).1, fun s hs => ?_, fun k hk => ?_, by omega⟩
  · obtain ⟨j, hj, rfl⟩ := List.getElem_of_mem hs
    have := (right10_at hR j hj).2.1
    unfold Sg.partsB Sg.argsB at this
    rw [Bool.and_eq_true, decide_eq_true_eq] at this
    simpa using this.1
  · have := mem_len hk
    omega
end Go.Proofs.Ytjehccemilefgaa.St

namespace Go.Proofs.Ytjehccemilefgaa.St
open Go.RowKit Kit Rw
open Go.Proofs.Ytjehccemilefgaa.Sg (Sig Row)
open Go.Proofs.Ytjehccemilefgaa.Hs (Ints Keys BoxT)
open Go.Proofs.Ytjehccemilefgaa.Tm (Tm Store termAt LookB refOfB_any Box4 isPl isPl_iff)
open Go.Proofs.Ytjehccemilefgaa.Ld (tmP parts_ahead)
open Go.Proofs.Ytjehccemilefgaa.Ex (turnB)
theorem boolInfo : (Try.prog.info? 4).map (fun i => (i.zero, i.size, i.bytes)) = some (some (.bool false), 1, 1) := by kernel_rfl
theorem own_openB {w : World} {base : Nat} {v : Value} {l : List Bool} (h : w.ownsRow base 4 1 v l.length (l.map Value.bool)) :
    ∃ A c, v = .slice A l.length c ∧ Rds w w.heap.size A (l.map Value.bool) ∧ ∀ g, v.ownBlock = some g → base ≤ g ∧ g < w.heap.size := by
  by_cases h0 : 0 < l.length
  · have h2 := h
    obtain ⟨_, ⟨_, hz⟩ | ⟨g, c, cur, rfl, _, _, hle, _⟩⟩ := h
    · omega
    · exact ⟨_, c, rfl, (OwnC.of_row h2).rds, fun g e => h2.lt g e⟩
  · have hl : l = [] := List.length_eq_zero_iff.1 (by omega)
    subst hl
    have h2 := h
    obtain ⟨_, ⟨rfl, _⟩ | ⟨g, c, cur, rfl, _⟩⟩ := h
    · exact ⟨none, 0, rfl, Rds.nil _ _ _, fun g e => h2.lt g e⟩
    · exact ⟨_, c, rfl, Rds.nil _ _ _, fun g e => h2.lt g e⟩
theorem bool_at {w : World} {B : Nat} {A : Option Addr} {l : List Bool} (h : Rds w B A (l.map Value.bool)) {k : Nat} {b : Bool} (hk : l[k]? = some b) :
    ∃ ad, A = some ad ∧ ad.block < B ∧ w.cell? (ad.add k) = some (.bool b) := by
  have hl := (List.getElem?_eq_some_iff.1 hk).1
  obtain ⟨ad, e, hlt, hc⟩ := h (by rw [List.length_map]; omega)
  exact ⟨ad, e, hlt, hc _ _ (by rw [List.getElem?_map, hk]; rfl)⟩
theorem ap_new2 {v v' u : Value} {N M : Nat} (hu : ∀ g, u.ownBlock = some g → g < N) (hv : v'.ownBlock = v.ownBlock ∨ v'.ownBlock = some M) (hN : N ≤ M) (h : Ap v u) : Ap v' u := by
  rcases hv with e | e
  · unfold Ap; rw [e]; exact h
  · refine .inr ?_
    rw [e]
    intro he
    have := hu M he.symm
    omega
section
variable (L : List Sig) (ks : List (List Int))
def colP (pr : B3 → Bool) (i : Nat) : List Bool := (List.range i).map fun j => pr (sdP L ks j)
theorem colP_len (pr : B3 → Bool) (i : Nat) : (colP L ks pr i).length = i := by simp [colP]
theorem colP_succ (pr : B3 → Bool) (i : Nat) : colP L ks pr (i + 1) = colP L ks pr i ++ [pr (sdP L ks i)] := by simp [colP, List.range_succ]
theorem colP_get (pr : B3 → Bool) {i j : Nat} (h : j < i) : (colP L ks pr i)[j]? = some (pr (sdP L ks j)) := by simp [colP, h]
end
structure Tri (w wx : World) (kA kS : Value) (u1 u2 u3 : Value) (l1 l2 l3 : List Bool) : Prop where
  o1 : wx.ownsRow (w.heap.size + 1) 4 1 u1 l1.length (l1.map Value.bool)
  o2 : wx.ownsRow (w.heap.size + 1) 4 1 u2 l2.length (l2.map Value.bool)
  o3 : wx.ownsRow (w.heap.size + 1) 4 1 u3 l3.length (l3.map Value.bool)
  ap : Ap u1 u2 ∧ Ap u1 u3 ∧ Ap u2 u1 ∧ Ap u2 u3 ∧ Ap u3 u1 ∧ Ap u3 u2
  q : Q w wx
  bt : BoxT wx w.heap.size kA kS
theorem Tri.alloc {w wx : World} {kA kS u1 u2 u3 : Value} {l1 l2 l3 : List Bool} (h : Tri w wx kA kS u1 u2 u3 l1 l2 l3) (o : Obj) : Tri w (wx.alloc o) kA kS u1 u2 u3 l1 l2 l3 := by
  have q := (Q.refl wx).alloc o
  exact ⟨row_kept h.o1 q (Nat.le_refl _), row_kept h.o2 q (Nat.le_refl _), row_kept h.o3 q (Nat.le_refl _), h.ap, h.q.trans q, h.bt.q q⟩
theorem Tri.rot {w wx : World} {kA kS u1 u2 u3 : Value} {l1 l2 l3 : List Bool} (h : Tri w wx kA kS u1 u2 u3 l1 l2 l3) : Tri w wx kA kS u2 u3 u1 l2 l3 l1 := by
  obtain ⟨a, b, c, d, e, f⟩ := h.ap
  exact ⟨h.o2, h.o3, h.o1, ⟨d, c, f, e, a, b⟩, h.q, h.bt⟩
theorem Tri.push1 {w wx wy : World} {kA kS u1 u2 u3 u' : Value} {l1 l2 l3 : List Bool} {x : Bool} (h : Tri w wx kA kS u1 u2 u3 l1 l2 l3) (own : wy.ownsRow (w.heap.size + 1) 4 1 u' (l1.length + 1) (l1.map Value.bool ++ [.bool x])) (gr : wx.grownBy wy u1.ownBlock) (hor : u'.ownBlock = u1.ownBlock ∨ u'.ownBlock = some wx.heap.size) : Tri w wy kA kS u' u2 u3 (l1 ++ [x]) l2 l3 := by
  obtain ⟨a, b, c, d, e, f⟩ := h.ap
  refine ⟨by rw [List.length_append, List.map_append]; exact own, h.o2.kept gr c, h.o3.kept gr e, ⟨ap_new2 (fun g e => (h.o2.lt g e).2) hor (Nat.le_refl _) a, ap_new2 (fun g e => (h.o3.lt g e).2) hor (Nat.le_refl _) b, ap_new (fun g e => (h.o2.lt g e).2) hor (Nat.le_refl _) c, d, ap_new (fun g e => (h.o3.lt g e).2) hor (Nat.le_refl _) e, f⟩, Below.grown h.q gr h.q.size (fun k e => Nat.le_of_succ_le (h.o1.lt k e).1), boxT_grown h.bt gr (fun e => by have := (h.o1.lt _ e).1; omega)⟩
set_option maxHeartbeats 1000000 in
theorem turnQ_any (s v : UInt8) (w : World) :
    Calls Try.prog 36 #[.int .u8 (s.toNat : Int), .int .u8 (v.toNat : Int)] w fun e w' => e = .returned (.int .u8 ((Ex.turnB s v).toNat : Int)) ∧ w = w' := by
  have e43 : ((v.toNat : Int) == 43) = decide (v = 43) := Ex.byte_is v 43 (by decide)
  have e45 : ((v.toNat : Int) == 45) = decide (v = 45) := Ex.byte_is v 45 (by decide)
  have e76 : ((s.toNat : Int) == 76) = decide (s = 76) := Ex.byte_is s 76 (by decide)
  have e82 : ((s.toNat : Int) == 82) = decide (s = 82) := Ex.byte_is s 82 (by decide)
  have HT : Hid (Ex.turnB s v = if v = 43 then s else if v = 45 ∧ s = 76 then 82 else if v = 45 ∧ s = 82 then 76 else 66) := rfl
  by_cases h1 : v = 43
  · rw [decide_eq_true h1] at e43
    rw [if_pos h1] at HT
    clear e45 e76 e82 h1
    generalize (v.toNat : Int) = vv at *
    generalize hsx : (s.toNat : Int) = ss at *
    have HS := Lib.hid hsx
    clear hsx
    go_enter Try.func36, Try.ntmps36
    go_wp2_with fail
    go_ret
    exact ⟨by rw [HT.out, HS.out]; rfl, rfl⟩
  · rw [decide_eq_false h1] at e43
    rw [if_neg h1] at HT
    clear h1
    by_cases h2 : v = 45
    · rw [decide_eq_true h2] at e45
      by_cases h3 : s = 76
      · rw [decide_eq_true h3] at e76
        rw [if_pos ⟨h2, h3⟩] at HT
        clear h2 h3 e82
        generalize (v.toNat : Int) = vv at *
        generalize (s.toNat : Int) = ss at *
        go_enter Try.func36, Try.ntmps36
        go_wp2_with fail
        go_ret
        exact ⟨by rw [HT.out]; rfl, rfl⟩
      · rw [decide_eq_false h3] at e76
        rw [if_neg (fun h => h3 h.2)] at HT
        by_cases h4 : s = 82
        · rw [decide_eq_true h4] at e82
          rw [if_pos ⟨h2, h4⟩] at HT
          clear h2 h3 h4
          generalize (v.toNat : Int) = vv at *
          generalize (s.toNat : Int) = ss at *
          go_enter Try.func36, Try.ntmps36
          go_wp2_with fail
          go_ret
          exact ⟨by rw [HT.out]; rfl, rfl⟩
        · rw [decide_eq_false h4] at e82
          rw [if_neg (fun h => h4 h.2)] at HT
          clear h2 h3 h4
          generalize (v.toNat : Int) = vv at *
          generalize (s.toNat : Int) = ss at *
          go_enter Try.func36, Try.ntmps36
          go_wp2_with fail
          go_ret
          exact ⟨by rw [HT.out]; rfl, rfl⟩
    · rw [decide_eq_false h2] at e45
      rw [if_neg (fun h => h2 h.1), if_neg (fun h => h2 h.1)] at HT
      clear h2 e76 e82
      generalize (v.toNat : Int) = vv at *
      generalize (s.toNat : Int) = ss at *
      go_enter Try.func36, Try.ntmps36
      go_wp2_with fail
      go_ret
      exact ⟨by rw [HT.out]; rfl, rfl⟩

theorem tok_len {L : List Sig} {n : Nat} {t : Tm} (h : TOk L n t) (h8 : ∀ s ∈ L, s.2.size ≤ 8) : t.xs.length ≤ 8 := by
  cases h with
  | leaf h _ => rw [h]; simp
  | con j h _ _ h2 _ => rw [h2]; exact h8 _ (List.getElem_mem h)
  | two a b _ h _ _ => rw [h]; simp
  | proj j m h e _ _ _ _ h2 _ => rw [h2]; simp
def CutQ (b : Bool) (W : World) (p : Value) (wx : World) : Prop := p = .bool b ∧ Q W wx
def CutV (v : UInt8) (W : World) (p : Value) (wx : World) : Prop := p = .int .u8 (v.toNat : Int) ∧ Q W wx
theorem allS_at {L : List Sig} {t : Tm} {f : Int → B3} {s : UInt8} (l : List Int) (k : Nat) (h : k < l.length) : allS L t f s k (l.drop k) = (onF (turnB s (varyT L t k)) (f l[k]) && allS L t f s (k + 1) (l.drop (k + 1))) := by
  rw [List.drop_eq_getElem_cons h]; rfl
set_option maxRecDepth 100000 in
set_option maxHeartbeats 8000000 in
theorem refSided10_any (R A S : Option Addr) (nl cl n c m d : Nat) (L : List Sig) (ks : List (List Int)) (id : Int) (side : UInt8) (w : World) (hnl : nl = L.length) (hr : Row w w.heap.size R L) (hn : n = ks.length) (hk : Keys w w.heap.size A ks) (hS : Store L ks) (hl8 : ∀ s ∈ L, s.2.size ≤ 8) (hks : ks.length ≤ 100000) :
    Calls Try.prog 15 #[.slice R nl cl, .agg #[.slice A n c, .slice S m d], .int .i64 id, .int .u8 (side.toNat : Int)] w fun e w' => e = .returned (.bool (sidedF L ks id side)) ∧ Q w w' := by
  subst hnl hn
  obtain ⟨i0, hi, hz0, hz1, hz2⟩ := info_parts boolInfo
  have Hi := Lib.hid hi
  have Hz0 := Lib.hid hz0
  have Hz1 := Lib.hid hz1
  have Hz2 := Lib.hid hz2
  clear hi hz0 hz1 hz2
  have HQ0 := Lib.hid ((Q.refl w).alloc (Obj.cells #[Value.slice A ks.length c, Value.slice S m d] 26))
  have HT := Lib.hid (BoxT.new w (Value.slice A ks.length c) (Value.slice S m d) 26)
  have CO : Hid (∀ U z, Q w U → Calls Try.prog 27 #[.agg #[.slice A ks.length c, .slice S m d], .int .i64 z] U (LookB w.heap.size ks z U)) := fun U z p => refOfB_any w.heap.size A S ks.length c m d ks z U rfl (hk.keep p) p.size
  have HRow := Lib.hid hr
  have HS := Lib.hid hS
  have H8 := Lib.hid hl8
  have HF : Hid (sidedF L ks id side = (isPl id ks.length && onF side (sdP L ks id.toNat))) := rfl
  clear hr hk hS hl8
  by_cases hp : isPl id ks.length = true
  · obtain ⟨p0, p1⟩ := (isPl_iff _ _).1 hp
    obtain ⟨n0, rfl⟩ := Int.eq_ofNat_of_zero_le p0
    have hn0 : n0 < ks.length := by omega
    rw [hp, Bool.true_and, Int.toNat_natCast] at HF
    have d0 : decide ((n0 : Int) < 0) = false := decide_eq_false (by omega)
    have d1 : decide ((ks.length : Int) ≤ (n0 : Int)) = false := decide_eq_false (by omega)
    have d2 : decide (ks.length ≤ n0) = false := decide_eq_false (by omega)
    clear p0 p1 hp
    go_enter Try.func15, Try.ntmps15
    go_wp2_with fail
    clear d0 d1 d2
    generalize w.alloc (Obj.cells #[Value.slice A ks.length c, Value.slice S m d] 26) = W1 at *
    go_loopw [9, 10, 11, 12] (fun ua ub uc iv wr => ∃ (i : Nat) (v1 v2 v3 : Value), i ≤ n0 + 1 ∧ iv = .int .i64 i ∧ v1 = ua ∧ v2 = ub ∧ v3 = uc ∧ Hid (wr.ownsRow (w.heap.size + 1) 4 1 v1 (colP L ks (·.1) i).length ((colP L ks (·.1) i).map Value.bool)) ∧ Hid (wr.ownsRow (w.heap.size + 1) 4 1 v2 (colP L ks (·.2.1) i).length ((colP L ks (·.2.1) i).map Value.bool)) ∧ Hid (wr.ownsRow (w.heap.size + 1) 4 1 v3 (colP L ks (·.2.2) i).length ((colP L ks (·.2.2) i).map Value.bool)) ∧ Hid (Ap v1 v2 ∧ Ap v1 v3 ∧ Ap v2 v1 ∧ Ap v2 v3 ∧ Ap v3 v1 ∧ Ap v3 v2) ∧ Hid (Q w wr) ∧ Hid (BoxT wr w.heap.size (Value.slice A ks.length c) (Value.slice S m d))) (fun _ _ _ iv _ => n0 + 1 - (intOf iv).toNat)
    case atStart => exact ⟨0, _, _, _, Nat.zero_le _, rfl, rfl, rfl, rfl, Lib.hid (own_nil W1 _ _ _), Lib.hid (own_nil W1 _ _ _), Lib.hid (own_nil W1 _ _ _), Lib.hid ⟨.inl rfl, .inl rfl, .inl rfl, .inl rfl, .inl rfl, .inl rfl⟩, HQ0, HT⟩
    case round =>
      obtain ⟨i, v1, v2, v3, hin, rfl, rfl, rfl, rfl, HO1, HO2, HO3, HAP, HQ, HTr⟩ := hrel
      clear HQ0 HT
      by_cases hlt : i ≤ n0
      · have hil : i < ks.length := by omega
        obtain ⟨htok, hterm⟩ := place_tok HS.out hil
        have hsd := sdP_eq HS.out hil
        have hpar := (parts_ahead HS.out (List.getElem?_eq_getElem hil)).2.2
        rw [← tmP_is hil] at hpar
        generalize tmP ks i = t at *
        have HTOK := Lib.hid htok
        have HSD := Lib.hid hsd
        have HPAR := Lib.hid hpar
        have HTM := Lib.hid hterm
        have b0 := HTr.out.c0
        have b1 := HTr.out.c1
        have e0 : decide ((i : Int) ≤ (n0 : Int)) = true := decide_eq_true (by omega)
        clear htok hsd hpar hterm
        go_wp2_with fail
        refine (CO.out wr i HQ.out).mono ?_
        rintro e w1 ⟨A1, n1, c1, rfl, hn1, hi1, q1⟩
        rw [HTM.out] at hn1 hi1 ⊢
        simp only [Option.getD_some, Option.isSome_some] at hn1 hi1 ⊢
        subst hn1
        have qa := q1.alloc (Obj.cells #[.int .i64 t.k, .int .i64 t.s, .int .i64 t.p, .slice A1 t.xs.length c1] 60)
        have hB := Box4.new w1 (.int .i64 t.k) (.int .i64 t.s) (.int .i64 t.p) (.slice A1 t.xs.length c1) 60
        have HI := Lib.hid (hi1.keep (((Q.refl w1).alloc (Obj.cells #[.int .i64 t.k, .int .i64 t.s, .int .i64 t.p, .slice A1 t.xs.length c1] 60)).mono (HQ.out.trans q1).size))
        have HQa := Lib.hid (HQ.out.trans qa)
        have HTa := Lib.hid (HTr.out.q qa)
        have HO1a := Lib.hid (row_kept HO1.out qa (Nat.le_refl _))
        have HO2a := Lib.hid (row_kept HO2.out qa (Nat.le_refl _))
        have HO3a := Lib.hid (row_kept HO3.out qa (Nat.le_refl _))
        clear hi1 q1 qa HO1 HO2 HO3 HTr b0 b1 e0
        have HB := Lib.hid hB
        obtain ⟨m1, hm1⟩ : ∃ b, (may3 t).1 = b := ⟨_, rfl⟩
        obtain ⟨m2, hm2⟩ : ∃ b, (may3 t).2.1 = b := ⟨_, rfl⟩
        obtain ⟨m3, hm3⟩ : ∃ b, (may3 t).2.2 = b := ⟨_, rfl⟩
        have e4 : (t.k != 4) = m2 := by rw [← hm2]; unfold may3; simp [bne, BEq.beq]
        have HM1 := Lib.hid hm1
        have HM2 := Lib.hid hm2
        have HM3 := Lib.hid hm3
        have u0 := hB.c0
        clear hB hm1 hm2 hm3
        go_upto_region 10 with fail
        generalize w1.alloc (Obj.cells #[.int .i64 t.k, .int .i64 t.s, .int .i64 t.p, .slice A1 t.xs.length c1] 60) = W2 at *
        go_cut [15] (CutQ m1 W2)
        case first =>
          by_cases k5 : t.k = 5
          · have f1 : (t.k != 5) = false := by simp [k5]
            have hm : m1 = false := by rw [← HM1.out]; unfold may3; simp [k5]
            clear k5
            go_wp2_with fail
            go_meet
            exact ⟨by rw [hm], Q.refl _⟩
          · have f1 : (t.k != 5) = true := by simp [k5]
            by_cases k6 : t.k = 6
            · have f2 : (t.k != 6) = false := by simp [k6]
              have hm : m1 = false := by rw [← HM1.out]; unfold may3; simp [k6]
              clear k5 k6
              go_wp2_with fail
              go_meet
              exact ⟨by rw [hm], Q.refl _⟩
            · have f2 : (t.k != 6) = true := by simp [k6]
              have hm : m1 = true := by rw [← HM1.out]; unfold may3; simp [k5, k6]
              clear k5 k6
              go_wp2_with fail
              go_meet
              exact ⟨by rw [hm], Q.refl _⟩
        case rest =>
          obtain ⟨rfl, qc⟩ := hcut
          clear u0
          have u0 := (HB.out.q qc).c0
          have QC := Lib.hid qc
          clear qc
          go_upto_region 12 with fail
          go_cut [17] (CutQ m3 W2)
          case first =>
            have h3 : m3 = (m1 && m2) := by
              rw [← HM1.out, ← HM2.out, ← HM3.out]; unfold may3
              by_cases a5 : t.k = 5 <;> by_cases a6 : t.k = 6 <;> by_cases a4 : t.k = 4 <;> simp [a5, a6, a4]
            have H3 := Lib.hid h3
            clear h3
            cases m1
            · go_wp2_with fail
              go_meet
              exact ⟨by rw [H3.out]; rfl, QC.out⟩
            · go_wp2_with fail
              go_meet
              exact ⟨by rw [H3.out]; rfl, QC.out⟩
          case rest =>
            obtain ⟨rfl, qc2⟩ := hcut
            have QC2 := Lib.hid qc2
            clear qc2 u0 QC e4
            go_wp2_with fail
            go_loopw [15, 16, 17, 18] (fun pa pb pc kv wx => ∃ (k : Nat) (a b cc : Bool), k ≤ t.xs.length ∧ kv = .int .i64 k ∧ pa = .bool a ∧ pb = .bool b ∧ pc = .bool cc ∧ Hid ((m1 && allS L t (fun a => sdP L ks a.toNat) 76 0 t.xs) = (a && allS L t (fun a => sdP L ks a.toNat) 76 k (t.xs.drop k))) ∧ Hid ((m2 && allS L t (fun a => sdP L ks a.toNat) 82 0 t.xs) = (b && allS L t (fun a => sdP L ks a.toNat) 82 k (t.xs.drop k))) ∧ Hid ((m3 && allS L t (fun a => sdP L ks a.toNat) 66 0 t.xs) = (cc && allS L t (fun a => sdP L ks a.toNat) 66 k (t.xs.drop k))) ∧ Hid (Q W2 wx)) (fun _ _ _ kv _ => t.xs.length - (intOf kv).toNat)
            case atStart => exact ⟨0, m1, m2, m3, Nat.zero_le _, rfl, rfl, rfl, rfl, Lib.hid (by simp), Lib.hid (by simp), Lib.hid (by simp), QC2⟩
            case round =>
              obtain ⟨k, ba, bb, bc, hk, rfl, rfl, rfl, rfl, HD1, HD2, HD3, HQx⟩ := hrel
              have t3 := (HB.out.q HQx.out).c3
              by_cases hkl : k < t.xs.length
              · have hxl : t.xs.length ≤ 8 := tok_len HTOK.out H8.out
                obtain ⟨X1, cX1, hv1, rX1, _⟩ := own_openB HO1a.out
                rw [colP_len] at hv1
                obtain ⟨X2, cX2, hv2, rX2, _⟩ := own_openB HO2a.out
                rw [colP_len] at hv2
                obtain ⟨X3, cX3, hv3, rX3, _⟩ := own_openB HO3a.out
                rw [colP_len] at hv3
                have hnk := HPAR.out t.xs[k] (List.getElem_mem hkl)
                obtain ⟨n, hxn⟩ := Int.eq_ofNat_of_zero_le hnk.1
                have hni : n < i := by omega
                obtain ⟨ad, hA, had, x0⟩ := (HI.out.keep (HQx.out.mono HQa.out.size)).at_ hkl
                rw [hxn] at x0
                obtain ⟨a1, hX1, ha1, z1⟩ := bool_at (rX1.q HQx.out) (colP_get L ks (·.1) hni)
                obtain ⟨a2, hX2, ha2, z2⟩ := bool_at (rX2.q HQx.out) (colP_get L ks (·.2.1) hni)
                obtain ⟨a3, hX3, ha3, z3⟩ := bool_at (rX3.q HQx.out) (colP_get L ks (·.2.2) hni)
                have e1 : (m1 && allS L t (fun a => sdP L ks a.toNat) 76 0 t.xs) = ((ba && onF (turnB 76 (varyT L t k)) (sdP L ks n)) && allS L t (fun a => sdP L ks a.toNat) 76 (k + 1) (t.xs.drop (k + 1))) := by rw [HD1.out, allS_at t.xs k hkl, hxn, Int.toNat_natCast, Bool.and_assoc]
                have e2 : (m2 && allS L t (fun a => sdP L ks a.toNat) 82 0 t.xs) = ((bb && onF (turnB 82 (varyT L t k)) (sdP L ks n)) && allS L t (fun a => sdP L ks a.toNat) 82 (k + 1) (t.xs.drop (k + 1))) := by rw [HD2.out, allS_at t.xs k hkl, hxn, Int.toNat_natCast, Bool.and_assoc]
                have e3 : (m3 && allS L t (fun a => sdP L ks a.toNat) 66 0 t.xs) = ((bc && onF (turnB 66 (varyT L t k)) (sdP L ks n)) && allS L t (fun a => sdP L ks a.toNat) 66 (k + 1) (t.xs.drop (k + 1))) := by rw [HD3.out, allS_at t.xs k hkl, hxn, Int.toNat_natCast, Bool.and_assoc]
                obtain ⟨vy, hvy⟩ : ∃ v, varyT L t k = v := ⟨_, rfl⟩
                rw [hvy] at e1 e2 e3
                have HE1 := Lib.hid e1
                have HE2 := Lib.hid e2
                have HE3 := Lib.hid e3
                clear e1 e2 e3 HD1 HD2 HD3 rX1 rX2 rX3
                have HX : Hid (∀ U, Q wr U → U.cell? (a1.add n) = some (.bool (sdP L ks n).1) ∧ U.cell? (a2.add n) = some (.bool (sdP L ks n).2.1) ∧ U.cell? (a3.add n) = some (.bool (sdP L ks n).2.2)) := fun U q => ⟨(q.cell (p := a1.add n) (by rw [add_block]; exact ha1)).trans z1, (q.cell (p := a2.add n) (by rw [add_block]; exact ha2)).trans z2, (q.cell (p := a3.add n) (by rw [add_block]; exact ha3)).trans z3⟩
                have HXR : Hid (∀ U, Q W2 U → Row U U.heap.size R L) := fun U q => (HRow.out.q (Nat.le_refl _) (HQa.out.trans q)).more (HQa.out.trans q).size
                obtain ⟨vm, hvm⟩ : ∃ v, (if t.k = 3 then varyN L t.s k else 43) = v := ⟨_, rfl⟩
                have HVY := Lib.hid hvy
                have HVM := Lib.hid hvm
                generalize sdP L ks n = pp at *
                have CT76 : Hid (∀ W : World, Calls Try.prog 36 #[.int .u8 76, .int .u8 (vy.toNat : Int)] W fun e w' => e = .returned (.int .u8 ((turnB 76 vy).toNat : Int)) ∧ w' = W) := fun W => (turnQ_any 76 vy W).mono fun e w' h => ⟨h.1, h.2.symm⟩
                have CT82 : Hid (∀ W : World, Calls Try.prog 36 #[.int .u8 82, .int .u8 (vy.toNat : Int)] W fun e w' => e = .returned (.int .u8 ((turnB 82 vy).toNat : Int)) ∧ w' = W) := fun W => (turnQ_any 82 vy W).mono fun e w' h => ⟨h.1, h.2.symm⟩
                have CT66 : Hid (∀ W : World, Calls Try.prog 36 #[.int .u8 66, .int .u8 (vy.toNat : Int)] W fun e w' => e = .returned (.int .u8 ((turnB 66 vy).toNat : Int)) ∧ w' = W) := fun W => (turnQ_any 66 vy W).mono fun e w' h => ⟨h.1, h.2.symm⟩
                have CN := Lib.hid (fun (s : UInt8) (W : World) => (on10_any s pp W).mono fun e w' h => And.intro h.1 h.2.symm)
                have u0 := (HB.out.q HQx.out).c0
                have n0' : (0 : Int) ≤ (n : Int) := Int.natCast_nonneg _
                have n1' : (n : Int) < (i : Int) := by omega
                have k0' : (0 : Int) ≤ (k : Int) := Int.natCast_nonneg _
                have k1' : (k : Int) < (t.xs.length : Int) := by omega
                have hkB := Lib.hid hkl
                clear hvy hvm z1 z2 z3 ha1 ha2 ha3 hnk hxn had
                subst hA hX1 hX2 hX3 hv1 hv2 hv3
                go_upto_if 70 with fail
                go_cut [20] (CutV vm wr)
                case first =>
                  by_cases k3 : t.k = 3
                  · have d3 : (t.k == 3) = true := beq_iff_eq.2 k3
                    obtain ⟨j, hj, hs, hlen⟩ : ∃ (j : Nat) (hj : j < L.length), t.s = (j : Int) ∧ t.xs.length = L[j].2.size := by
                      cases HTOK.out with
                      | leaf _ h => omega
                      | con j h _ h3 h4 _ => exact ⟨j, h, h3, h4⟩
                      | two a b h => omega
                      | proj j m h e h6 => omega
                    have hkj : k < L[j].2.size := by omega
                    have hv : vm = L[j].2[k] := by rw [← HVM.out, if_pos k3, hs, varyN_at hj hkj]
                    obtain ⟨ag, rfl, hgb, _, g1⟩ := (HXR.out _ HQx.out).at_ hj
                    have u1 := (HB.out.q HQx.out).c1
                    rw [hs] at u1
                    have jl : (j : Int) < (L.length : Int) := by omega
                    have jl0 : (0 : Int) ≤ (j : Int) := Int.natCast_nonneg _
                    have kl1 : (k : Int) < (L[j].2.size : Int) := by omega
                    clear k3 x0 t3
                    go_wp2_with fail
                    go_meet
                    exact ⟨by rw [hv], Q.refl _⟩
                  · have d3 : (t.k == 3) = false := beq_eq_false_iff_ne.2 k3
                    have hv : vm = 43 := by rw [← HVM.out, if_neg k3]
                    clear k3
                    go_wp2_with fail
                    go_meet
                    exact ⟨by rw [hv]; rfl, Q.refl _⟩
                case rest =>
                  obtain ⟨rfl, qv⟩ := hcut
                  have QV := Lib.hid qv
                  clear u0 x0 t3 qv
                  generalize wc = wa at *
                  have u0 := (HB.out.q (HQx.out.trans QV.out)).c0
                  go_upto_if 81 with fail
                  go_cut [20] (CutV vy wa)
                  case first =>
                    by_cases k6 : t.k = 6
                    · have d6 : (t.k == 6) = true := beq_iff_eq.2 k6
                      obtain ⟨j, m', hj, hs, hp', hmj⟩ : ∃ (j m' : Nat) (hj : j < L.length), t.s = (j : Int) ∧ t.p = (m' : Int) ∧ m' < L[j].2.size := by
                        cases HTOK.out with
                        | leaf _ h => omega
                        | con j h h3 => omega
                        | two a b h => omega
                        | proj j m h e _ h1 h2 h3 _ _ => exact ⟨j, m, h, h1, h2, h3⟩
                      have hv : vy = L[j].2[m'] := by rw [← HVY.out]; unfold varyT; rw [if_neg (by omega), if_pos k6, hs, hp', Int.toNat_natCast, varyN_at hj hmj]
                      obtain ⟨ag, rfl, hgb, _, g1⟩ := (HXR.out _ (HQx.out.trans QV.out)).at_ hj
                      have u1 := (HB.out.q (HQx.out.trans QV.out)).c1
                      have u2 := (HB.out.q (HQx.out.trans QV.out)).c2
                      rw [hs] at u1
                      rw [hp'] at u2
                      have jl : (j : Int) < (L.length : Int) := by omega
                      have jl0 : (0 : Int) ≤ (j : Int) := Int.natCast_nonneg _
                      have ml1 : (m' : Int) < (L[j].2.size : Int) := by omega
                      have ml0 : (0 : Int) ≤ (m' : Int) := Int.natCast_nonneg _
                      clear k6 u0
                      go_wp2_with fail
                      go_quiet (fail)
                      go_wp2_with fail
                      go_meet
                      exact ⟨by rw [hv], (Q.refl _).drewN _⟩
                    · have d6 : (t.k == 6) = false := beq_eq_false_iff_ne.2 k6
                      have hv : vy = vm := by rw [← HVY.out, ← HVM.out]; unfold varyT; rw [if_neg k6]
                      clear k6
                      go_wp2_with fail
                      go_meet
                      exact ⟨by rw [hv], Q.refl _⟩
                  case rest =>
                    obtain ⟨rfl, qv2⟩ := hcut
                    have QB := Lib.hid (QV.out.trans qv2)
                    clear u0 qv2
                    generalize wc = wb at *
                    obtain ⟨z1, z2, z3⟩ := HX.out _ QB.out
                    have hkl2 := hkB.out
                    go_upto_region 22 with fail
                    go_cut [15] (CutQ (ba && onF (turnB 76 vy) pp) wb)
                    case first =>
                      cases ba
                      · go_quiet (fail)
                        go_wp2_with fail
                        go_meet
                        exact ⟨rfl, (Q.refl _).drewN _⟩
                      · go_quiet (first | (go_at_call 36; exact Calls.quiet_of_same (CT76.out _)) | (go_at_call 35; exact Calls.quiet_of_same (CN.out (turnB 76 vy) _)))
                        go_wp2_with fail
                        go_meet
                        exact ⟨by rw [Bool.true_and], (Q.refl _).drewN _⟩
                    case rest =>
                      obtain ⟨rfl, qd⟩ := hcut
                      have QD := Lib.hid (QB.out.trans qd)
                      clear z1 z2 z3 qd
                      generalize wc = wd at *
                      obtain ⟨z1, z2, z3⟩ := HX.out _ QD.out
                      go_upto_region 23 with fail
                      go_cut [16] (CutQ (bb && onF (turnB 82 vy) pp) wd)
                      case first =>
                        cases bb
                        · go_quiet (fail)
                          go_wp2_with fail
                          go_meet
                          exact ⟨rfl, (Q.refl _).drewN _⟩
                        · go_quiet (first | (go_at_call 36; exact Calls.quiet_of_same (CT82.out _)) | (go_at_call 35; exact Calls.quiet_of_same (CN.out (turnB 82 vy) _)))
                          go_wp2_with fail
                          go_meet
                          exact ⟨by rw [Bool.true_and], (Q.refl _).drewN _⟩
                      case rest =>
                        obtain ⟨rfl, qe⟩ := hcut
                        have QE := Lib.hid (QD.out.trans qe)
                        clear z1 z2 z3 qe
                        generalize wc = we at *
                        obtain ⟨z1, z2, z3⟩ := HX.out _ QE.out
                        go_upto_region 24 with fail
                        cases bc
                        · go_quiet (fail)
                          go_wp2_with fail
                          go_roundw
                          case rel => exact ⟨k + 1, _, _, false, hkl2, by go_num, rfl, rfl, rfl, HE1, HE2, HE3, Lib.hid ((HQx.out.trans QE.out).drewN _)⟩
                          case measure => simp [intOf]; omega
                        · go_quiet (first | (go_at_call 36; exact Calls.quiet_of_same (CT66.out _)) | (go_at_call 35; exact Calls.quiet_of_same (CN.out (turnB 66 vy) _)))
                          go_wp2_with fail
                          go_roundw
                          case rel => exact ⟨k + 1, _, _, _, hkl2, by go_num, rfl, rfl, rfl, HE1, HE2, by rw [Bool.true_and] at HE3; exact HE3, Lib.hid ((HQx.out.trans QE.out).drewN _)⟩
                          case measure => simp [intOf]; omega
              · have hkx : k = t.xs.length := by omega
                have hz : t.xs.drop k = [] := List.drop_of_length_le (by omega)
                have e9 : decide ((k : Int) < (t.xs.length : Int)) = false := decide_eq_false (by omega)
                rw [hz] at HD1 HD2 HD3
                have en : ∀ (f : Int → B3) (u : UInt8), allS L t f u k [] = true := fun _ _ => rfl
                have hB1 : ba = (sdP L ks i).1 := by rw [HSD.out]; show ba = ((may3 t).1 && allS L t (fun a => sdP L ks a.toNat) 76 0 t.xs); rw [HM1.out]; have h := HD1.out; rw [en, Bool.and_true] at h; exact h.symm
                have hB2 : bb = (sdP L ks i).2.1 := by rw [HSD.out]; show bb = ((may3 t).2.1 && allS L t (fun a => sdP L ks a.toNat) 82 0 t.xs); rw [HM2.out]; have h := HD2.out; rw [en, Bool.and_true] at h; exact h.symm
                have hB3 : bc = (sdP L ks i).2.2 := by rw [HSD.out]; show bc = ((may3 t).2.2 && allS L t (fun a => sdP L ks a.toNat) 66 0 t.xs); rw [HM3.out]; have h := HD3.out; rw [en, Bool.and_true] at h; exact h.symm
                have HC1 : Hid (colP L ks (·.1) (i + 1) = colP L ks (·.1) i ++ [ba]) := by rw [hB1]; exact colP_succ _ _ _ _
                have HC2 : Hid (colP L ks (·.2.1) (i + 1) = colP L ks (·.2.1) i ++ [bb]) := by rw [hB2]; exact colP_succ _ _ _ _
                have HC3 : Hid (colP L ks (·.2.2) (i + 1) = colP L ks (·.2.2) i ++ [bc]) := by rw [hB3]; exact colP_succ _ _ _ _
                have HCl : Hid ((colP L ks (·.1) i).length = i ∧ (colP L ks (·.2.1) i).length = i ∧ (colP L ks (·.2.2) i).length = i) := ⟨colP_len _ _ _ _, colP_len _ _ _ _, colP_len _ _ _ _⟩
                have Q0 : Hid (Q W2 (wr.alloc (Obj.cells #[.bool ba] 4))) := Q.alloc HQx.out _
                have HTri : Hid (Tri w (wr.alloc (Obj.cells #[.bool ba] 4)) (Value.slice A ks.length c) (Value.slice S m d) v1 v2 v3 (colP L ks (·.1) i) (colP L ks (·.2.1) i) (colP L ks (·.2.2) i)) := ⟨row_kept HO1a.out Q0.out (Nat.le_refl _), row_kept HO2a.out Q0.out (Nat.le_refl _), row_kept HO3a.out Q0.out (Nat.le_refl _), HAP.out, HQa.out.trans Q0.out, HTa.out.q Q0.out⟩
                have HS1 := Lib.hid (src_alloc wr [.bool ba] 4 (0, 0))
                clear hB1 hB2 hB3 hz HD1 HD2 HD3 en t3
                have t3 := (HB.out.q HQx.out).c3
                generalize colP L ks (·.1) i = l1 at *
                generalize colP L ks (·.2.1) i = l2 at *
                generalize colP L ks (·.2.2) i = l3 at *
                go_wp2_with (first
                  | (at_builtin; refine wpList_append_src _ rfl (.tmp 145) (.tmp 147) _ rfl (w.heap.size + 1) 4 i0 _ 1 1 Try.underlying76 Hi.out Hz0.out Hz1.out Hz2.out rfl (by omega) v1 l1.length (l1.map Value.bool) rfl HTri.out.o1 _ 1 1 [.bool ba] rfl rfl HS1.out (by simp [Value.oneCell']) (by have := HCl.out.1; unfold maxLen; omega) (by have := HCl.out.1; omega) HTri.out.bt.lt ?_; intro x1 wa owna gra hora; have T1 := Lib.hid ((HTri.out.push1 owna gra hora).alloc (Obj.cells #[.bool bb] 4)).rot; have HS2 := Lib.hid (src_alloc wa [.bool bb] 4 (0, 0)); clear owna gra hora HTri HS1)
                  | (at_builtin; refine wpList_append_src _ rfl (.tmp 149) (.tmp 151) _ rfl (w.heap.size + 1) 4 i0 _ 1 1 Try.underlying76 Hi.out Hz0.out Hz1.out Hz2.out rfl (by omega) v2 l2.length (l2.map Value.bool) rfl T1.out.o1 _ 1 1 [.bool bb] rfl rfl HS2.out (by simp [Value.oneCell']) (by have := HCl.out.2.1; unfold maxLen; omega) (by have := HCl.out.2.1; omega) T1.out.bt.lt ?_; intro x2 wb ownb grb horb; have T2 := Lib.hid ((T1.out.push1 ownb grb horb).alloc (Obj.cells #[.bool bc] 4)).rot; have HS3 := Lib.hid (src_alloc wb [.bool bc] 4 (0, 0)); clear ownb grb horb T1 HS2)
                  | (at_builtin; refine wpList_append_src _ rfl (.tmp 153) (.tmp 155) _ rfl (w.heap.size + 1) 4 i0 _ 1 1 Try.underlying76 Hi.out Hz0.out Hz1.out Hz2.out rfl (by omega) v3 l3.length (l3.map Value.bool) rfl T2.out.o1 _ 1 1 [.bool bc] rfl rfl HS3.out (by simp [Value.oneCell']) (by have := HCl.out.2.2; unfold maxLen; omega) (by have := HCl.out.2.2; omega) T2.out.bt.lt ?_; intro x3 wc ownc grc horc; have T3 := Lib.hid (T2.out.push1 ownc grc horc).rot; clear ownc grc horc T2 HS3))
                go_roundw
                case rel => exact ⟨i + 1, x1, x2, x3, by omega, by go_num, rfl, rfl, rfl, by rw [HC1.out]; exact T3.out.o1, by rw [HC2.out]; exact T3.out.o2, by rw [HC3.out]; exact T3.out.o3, T3.out.ap, T3.out.q, T3.out.bt⟩
                case measure => simp [intOf]; omega
      · have hix : i = n0 + 1 := by omega
        subst hix
        have e0 : decide (((n0 + 1 : Nat) : Int) ≤ (n0 : Int)) = false := decide_eq_false (by omega)
        obtain ⟨X1, c1, rfl, r1, _⟩ := own_openB HO1.out
        obtain ⟨X2, c2, rfl, r2, _⟩ := own_openB HO2.out
        obtain ⟨X3, c3, rfl, r3, _⟩ := own_openB HO3.out
        obtain ⟨d1, rfl, _, z1⟩ := bool_at r1 (colP_get L ks (·.1) (Nat.lt_succ_self n0))
        obtain ⟨d2, rfl, _, z2⟩ := bool_at r2 (colP_get L ks (·.2.1) (Nat.lt_succ_self n0))
        obtain ⟨d3, rfl, _, z3⟩ := bool_at r3 (colP_get L ks (·.2.2) (Nat.lt_succ_self n0))
        have CN := Lib.hid (fun W => (on10_any side (sdP L ks n0) W).mono fun e w' h => And.intro h.1 h.2.symm)
        rw [colP_len, colP_len, colP_len]
        have k0 : (n0 : Int) < ((n0 + 1 : Nat) : Int) := by omega
        have k1 : (0 : Int) ≤ (n0 : Int) := Int.natCast_nonneg _
        clear r1 r2 r3 HO1 HO2 HO3 HTr HAP
        generalize sdP L ks n0 = bb at *
        generalize (side.toNat : Int) = sd at *
        go_wp2_with fail
        go_quiet (first | (go_at_call 35; exact Calls.quiet_of_same (CN.out _)))
        go_wp2_with fail
        go_ret
        exact ⟨by rw [HF.out]; rfl, HQ.out.trans ((Q.refl _).drewN _)⟩
  · have hp' : isPl id ks.length = false := by simpa using hp
    rw [hp', Bool.false_and] at HF
    have hno : id < 0 ∨ (ks.length : Int) ≤ id := by
      by_cases h0 : id < 0
      · exact .inl h0
      · refine .inr ?_
        by_cases h1 : (ks.length : Int) ≤ id
        · exact h1
        · exact absurd ((isPl_iff _ _).2 ⟨by omega, by omega⟩) hp
    have b0 := HT.out.c0
    by_cases h0 : id < 0
    · have d0 : decide (id < 0) = true := decide_eq_true h0
      clear hno h0 hp hp'
      go_enter Try.func15, Try.ntmps15
      go_wp2_with fail
      go_ret
      exact ⟨by rw [HF.out]; rfl, HQ0.out⟩
    · have d0 : decide (id < 0) = false := decide_eq_false h0
      have d1 : decide ((ks.length : Int) ≤ id) = true := decide_eq_true (by omega)
      clear hno h0 hp hp'
      go_enter Try.func15, Try.ntmps15
      go_wp2_with fail
      go_ret
      exact ⟨by rw [HF.out]; rfl, HQ0.out⟩
end Go.Proofs.Ytjehccemilefgaa.St

namespace Go.Proofs.Ytjehccemilefgaa.St
open Go.RowKit Kit Rw

set_option maxRecDepth 100000 in
set_option maxHeartbeats 2000000 in
theorem equal10_any (A B : Option Addr) (n c m d : Nat) (l r : List PI) (w : World) (hn : n = l.length) (hm : m = r.length) (hr : Rds w w.heap.size A (cellsQ l)) (hr' : Rds w w.heap.size B (cellsQ r)) (hl : l.length ≤ 1000000) :
    Calls Try.prog 37 #[.slice A n c, .slice B m d] w fun e w' => e = .returned (.bool (sameQ l r)) ∧ Q w w' := by
  subst hn hm
  have HR := Lib.hid hr
  have HR' := Lib.hid hr'
  clear hr hr'
  by_cases hne : l.length = r.length
  · have e0 : ((l.length : Int) != (r.length : Int)) = false := by rw [bne_eq_false_iff_eq]; omega
    have HN := Lib.hid hne
    have HF0 : Hid (sameQ l r = eqQ l r) := by unfold Hid sameQ; rw [decide_eq_true hne, Bool.true_and]
    clear hne
    go_enter Try.func37, Try.ntmps37
    go_wp2_with fail
    go_loopw [13] (fun iv wr => ∃ k : Nat, k ≤ l.length ∧ iv = .int .i64 k ∧ Hid (eqQ l r = eqQ (l.drop k) (r.drop k)) ∧ Hid (Q w wr)) (fun iv _ => l.length - (intOf iv).toNat)
    case atStart => exact ⟨0, Nat.zero_le _, rfl, Lib.hid (by simp), Lib.hid (Q.refl w)⟩
    case round =>
      obtain ⟨k, hk, rfl, HD, HQ⟩ := hrel
      by_cases hlt : k < l.length
      · have hlt' : k < r.length := by have := HN.out; omega
        obtain ⟨ad, rfl, hb, c0, c1⟩ := pair_at (HR.out.q HQ.out) hlt
        obtain ⟨ad', rfl, hb', c0', c1'⟩ := pair_at (HR'.out.q HQ.out) hlt'
        have HE' := fun w => run_neq_pair w l[k] r[k]
        have HD2 := HD.out.trans (eqQ_at l r k hlt hlt')
        have j1 : (k : Int) < (l.length : Int) := by omega
        have j2 : (k : Int) < (r.length : Int) := by omega
        have j0 : (0 : Int) ≤ (k : Int) := Int.natCast_nonneg _
        clear HD
        generalize l[k] = z at *
        generalize r[k] = z' at *
        cases he : eqP z z'
        · rw [he] at HE' HD2
          have HD3 := Lib.hid HD2
          rw [Bool.false_and] at HD3
          clear he HD2
          go_wp2_with fail
          go_quiet (fail)
          go_wp2_with fail
          go_ret
          exact ⟨by rw [HF0.out, HD3.out]; rfl, by first | exact HQ.out.drew | exact HQ.out.drewN _⟩
        · rw [he] at HE' HD2
          have HD3 := Lib.hid HD2
          rw [Bool.true_and] at HD3
          clear he HD2
          go_wp2_with fail
          go_quiet (fail)
          go_wp2_with fail
          go_roundw
          case rel => exact ⟨k + 1, by omega, by go_num, HD3, Lib.hid (by first | exact HQ.out.drew | exact HQ.out.drewN _)⟩
          case measure => simp [intOf]; omega
      · have HD2 : Hid (eqQ l r = true) := by
          unfold Hid
          rw [HD.out, eqQ_end _ _ _ (by omega)]
        go_wp2_with fail
        go_ret
        exact ⟨by rw [HF0.out, HD2.out]; rfl, HQ.out⟩
  · have e0 : ((l.length : Int) != (r.length : Int)) = true := by rw [bne_iff_ne]; omega
    have HF0 : Hid (sameQ l r = false) := by unfold Hid sameQ; rw [decide_eq_false hne, Bool.false_and]
    clear hne
    go_enter Try.func37, Try.ntmps37
    go_wp2_with fail
    go_ret
    exact ⟨by rw [HF0.out]; rfl, Q.refl w⟩
set_option maxRecDepth 100000 in
set_option maxHeartbeats 2000000 in
theorem same10_any (A B : Option Addr) (n c m d : Nat) (a b : Int × List PI) (w : World) (hn : n = a.2.length) (hm : m = b.2.length) (hr : Rds w w.heap.size A (cellsQ a.2)) (hr' : Rds w w.heap.size B (cellsQ b.2)) (hl : a.2.length ≤ 1000000) :
    Calls Try.prog 16 #[.agg #[.int .i64 a.1, .slice A n c], .agg #[.int .i64 b.1, .slice B m d]] w fun e w' => e = .returned (.bool (sameW a b)) ∧ Q w w' := by
  subst hn hm
  have q0 := ((Q.refl w).alloc (Obj.cells #[.int .i64 a.1, .slice A a.2.length c] 33)).alloc (Obj.cells #[.int .i64 b.1, .slice B b.2.length d] 33)
  have CE := Lib.hid (equal10_any A B a.2.length c b.2.length d a.2 b.2 _ rfl rfl (hr.q q0) (hr'.q q0) hl)
  have HF : Hid (sameW a b = ((a.1 == b.1) && sameQ a.2 b.2)) := rfl
  have HQ0 := Lib.hid q0
  clear hr hr' q0
  cases hk : a.1 == b.1
  · rw [hk, Bool.false_and] at HF
    go_enter Try.func16, Try.ntmps16
    go_wp2_with fail
    go_ret
    exact ⟨by rw [HF.out]; rfl, HQ0.out⟩
  · rw [hk, Bool.true_and] at HF
    go_enter Try.func16, Try.ntmps16
    go_wp2_with fail
    refine CE.out.mono ?_
    rintro e w1 ⟨rfl, q1⟩
    go_wp2_with fail
    go_ret
    exact ⟨by rw [HF.out]; first | rfl | simp, HQ0.out.trans q1⟩
end Go.Proofs.Ytjehccemilefgaa.St
