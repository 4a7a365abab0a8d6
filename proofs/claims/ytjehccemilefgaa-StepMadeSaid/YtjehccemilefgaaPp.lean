/-
  What the proofs lean on, part 16 of 16.
-/
import Derived.Test.YtjehccemilefgaaPf
import Derived.Test.YtjehccemilefgaaPn
import Derived.Test.YtjehccemilefgaaPo
namespace Go.Proofs.Ytjehccemilefgaa.St
open Go.RowKit Kit Rw
open Go.Proofs.Ytjehccemilefgaa.Sg (Sig Row)
open Go.Proofs.Ytjehccemilefgaa.Hs (Ints Keys BoxT OwnI rdF_dist refLay_any)
open Go.Proofs.Ytjehccemilefgaa.Tm (Tm Store Box4 isPl isPl_iff stF stF_get)
def ex10L : List Sig := [(⟨#[99]⟩, ⟨#[43]⟩)]
def ex10K : List (List Int) := [[0, 0, 0], [1, 0, 0], [2, 0, 0], [3, 0, 0, 2], [3, 0, 0, 1]]
theorem ex10_store : Store ex10L ex10K := ⟨rdF_dist rfl, by decide, fun i key hk => by
  have h : stF ex10L ex10K 0 = true := rfl
  have := stF_get h i key hk
  rwa [Nat.zero_add] at this⟩
theorem ex10_a : stepF ex10L ex10K 3 4 = (1, [(2, 1)]) := rfl
theorem ex10_b : stepF ex10L ex10K 2 3 = (2, []) := rfl
theorem ex10_c : stepF ex10L ex10K 1 3 = (3, []) := rfl
theorem ex10_d : sidedF ex10L ex10K 3 76 = true := rfl
theorem own_ints {w : World} {B : Nat} {l : List Int} (h : OwnC w B (l.map fun x => Value.int .i64 x)) : Ints w w.heap.size (some ⟨B, 0, none⟩) l := fun _ => ⟨_, rfl, h.1, fun i x hx => by
  rw [Hs.add_zero_head]
  exact (h.2 i _ (by rw [List.getElem?_map, hx]; rfl)).1⟩
theorem ex10_row (w : World) : Row (w.alloc (Obj.cells #[.string ⟨#[99]⟩, .string ⟨#[43]⟩] 55)) (w.alloc (Obj.cells #[.string ⟨#[99]⟩, .string ⟨#[43]⟩] 55)).heap.size (some ⟨w.heap.size, 0, none⟩) ex10L := fun _ => by
  have hO := Ex.own_new8 w [.string ⟨#[99]⟩, .string ⟨#[43]⟩] 55
  refine ⟨_, rfl, hO.1, fun i s hs => ?_⟩
  match i, hs with
  | 0, hs =>
    obtain rfl : ((⟨#[99]⟩, ⟨#[43]⟩) : Sig) = s := by simpa [ex10L] using hs
    exact ⟨(hO.2 0 _ rfl).1, (hO.2 1 _ rfl).1⟩
  | i + 1, hs => simp [ex10L] at hs
theorem ex10_keys (W0 : World) : Keys ((((((W0.alloc (Obj.cells #[.int .i64 0, .int .i64 0, .int .i64 0] 3)).alloc (Obj.cells #[.int .i64 1, .int .i64 0, .int .i64 0] 3)).alloc (Obj.cells #[.int .i64 2, .int .i64 0, .int .i64 0] 3)).alloc (Obj.cells #[.int .i64 3, .int .i64 0, .int .i64 0, .int .i64 2] 3)).alloc (Obj.cells #[.int .i64 3, .int .i64 0, .int .i64 0, .int .i64 1] 3)).alloc (Obj.cells #[.slice (some ⟨W0.heap.size, 0, none⟩) 3 3, .slice (some ⟨(W0.heap.size + 1), 0, none⟩) 3 3, .slice (some ⟨(W0.heap.size + 1 + 1), 0, none⟩) 3 3, .slice (some ⟨(W0.heap.size + 1 + 1 + 1), 0, none⟩) 4 4, .slice (some ⟨(W0.heap.size + 1 + 1 + 1 + 1), 0, none⟩) 4 4] 24)) ((((((W0.alloc (Obj.cells #[.int .i64 0, .int .i64 0, .int .i64 0] 3)).alloc (Obj.cells #[.int .i64 1, .int .i64 0, .int .i64 0] 3)).alloc (Obj.cells #[.int .i64 2, .int .i64 0, .int .i64 0] 3)).alloc (Obj.cells #[.int .i64 3, .int .i64 0, .int .i64 0, .int .i64 2] 3)).alloc (Obj.cells #[.int .i64 3, .int .i64 0, .int .i64 0, .int .i64 1] 3)).alloc (Obj.cells #[.slice (some ⟨W0.heap.size, 0, none⟩) 3 3, .slice (some ⟨(W0.heap.size + 1), 0, none⟩) 3 3, .slice (some ⟨(W0.heap.size + 1 + 1), 0, none⟩) 3 3, .slice (some ⟨(W0.heap.size + 1 + 1 + 1), 0, none⟩) 4 4, .slice (some ⟨(W0.heap.size + 1 + 1 + 1 + 1), 0, none⟩) 4 4] 24)).heap.size (some ⟨W0.heap.size + 1 + 1 + 1 + 1 + 1, 0, none⟩) ex10K ∧ Q W0 ((((((W0.alloc (Obj.cells #[.int .i64 0, .int .i64 0, .int .i64 0] 3)).alloc (Obj.cells #[.int .i64 1, .int .i64 0, .int .i64 0] 3)).alloc (Obj.cells #[.int .i64 2, .int .i64 0, .int .i64 0] 3)).alloc (Obj.cells #[.int .i64 3, .int .i64 0, .int .i64 0, .int .i64 2] 3)).alloc (Obj.cells #[.int .i64 3, .int .i64 0, .int .i64 0, .int .i64 1] 3)).alloc (Obj.cells #[.slice (some ⟨W0.heap.size, 0, none⟩) 3 3, .slice (some ⟨(W0.heap.size + 1), 0, none⟩) 3 3, .slice (some ⟨(W0.heap.size + 1 + 1), 0, none⟩) 3 3, .slice (some ⟨(W0.heap.size + 1 + 1 + 1), 0, none⟩) 4 4, .slice (some ⟨(W0.heap.size + 1 + 1 + 1 + 1), 0, none⟩) 4 4] 24)) := by
  have o0 := Ex.own_new8 W0 [.int .i64 0, .int .i64 0, .int .i64 0] 3
  have q0 := (Q.refl W0).alloc (Obj.cells #[.int .i64 0, .int .i64 0, .int .i64 0] 3)
  have z0 : (W0.alloc (Obj.cells #[.int .i64 0, .int .i64 0, .int .i64 0] 3)).heap.size = W0.heap.size + 1 := by simp
  generalize W0.alloc (Obj.cells #[.int .i64 0, .int .i64 0, .int .i64 0] 3) = X1 at *
  have o1 := Ex.own_new8 X1 [.int .i64 1, .int .i64 0, .int .i64 0] 3
  have q1 := (Q.refl X1).alloc (Obj.cells #[.int .i64 1, .int .i64 0, .int .i64 0] 3)
  have z1 : (X1.alloc (Obj.cells #[.int .i64 1, .int .i64 0, .int .i64 0] 3)).heap.size = X1.heap.size + 1 := by simp
  generalize X1.alloc (Obj.cells #[.int .i64 1, .int .i64 0, .int .i64 0] 3) = X2 at *
  have o2 := Ex.own_new8 X2 [.int .i64 2, .int .i64 0, .int .i64 0] 3
  have q2 := (Q.refl X2).alloc (Obj.cells #[.int .i64 2, .int .i64 0, .int .i64 0] 3)
  have z2 : (X2.alloc (Obj.cells #[.int .i64 2, .int .i64 0, .int .i64 0] 3)).heap.size = X2.heap.size + 1 := by simp
  generalize X2.alloc (Obj.cells #[.int .i64 2, .int .i64 0, .int .i64 0] 3) = X3 at *
  have o3 := Ex.own_new8 X3 [.int .i64 3, .int .i64 0, .int .i64 0, .int .i64 2] 3
  have q3 := (Q.refl X3).alloc (Obj.cells #[.int .i64 3, .int .i64 0, .int .i64 0, .int .i64 2] 3)
  have z3 : (X3.alloc (Obj.cells #[.int .i64 3, .int .i64 0, .int .i64 0, .int .i64 2] 3)).heap.size = X3.heap.size + 1 := by simp
  generalize X3.alloc (Obj.cells #[.int .i64 3, .int .i64 0, .int .i64 0, .int .i64 2] 3) = X4 at *
  have o4 := Ex.own_new8 X4 [.int .i64 3, .int .i64 0, .int .i64 0, .int .i64 1] 3
  have q4 := (Q.refl X4).alloc (Obj.cells #[.int .i64 3, .int .i64 0, .int .i64 0, .int .i64 1] 3)
  have z4 : (X4.alloc (Obj.cells #[.int .i64 3, .int .i64 0, .int .i64 0, .int .i64 1] 3)).heap.size = X4.heap.size + 1 := by simp
  generalize X4.alloc (Obj.cells #[.int .i64 3, .int .i64 0, .int .i64 0, .int .i64 1] 3) = X5 at *
  have e1 : X1.heap.size = W0.heap.size + 1 := z0
  have e2 : X2.heap.size = W0.heap.size + 1 + 1 := by omega
  have e3 : X3.heap.size = W0.heap.size + 1 + 1 + 1 := by omega
  have e4 : X4.heap.size = W0.heap.size + 1 + 1 + 1 + 1 := by omega
  have e5 : X5.heap.size = W0.heap.size + 1 + 1 + 1 + 1 + 1 := by omega
  have o5 := Ex.own_new8 X5 [.slice (some ⟨W0.heap.size, 0, none⟩) 3 3, .slice (some ⟨(W0.heap.size + 1), 0, none⟩) 3 3, .slice (some ⟨(W0.heap.size + 1 + 1), 0, none⟩) 3 3, .slice (some ⟨(W0.heap.size + 1 + 1 + 1), 0, none⟩) 4 4, .slice (some ⟨(W0.heap.size + 1 + 1 + 1 + 1), 0, none⟩) 4 4] 24
  have q5 := (Q.refl X5).alloc (Obj.cells #[.slice (some ⟨W0.heap.size, 0, none⟩) 3 3, .slice (some ⟨(W0.heap.size + 1), 0, none⟩) 3 3, .slice (some ⟨(W0.heap.size + 1 + 1), 0, none⟩) 3 3, .slice (some ⟨(W0.heap.size + 1 + 1 + 1), 0, none⟩) 4 4, .slice (some ⟨(W0.heap.size + 1 + 1 + 1 + 1), 0, none⟩) 4 4] 24)
  rw [e5] at o5
  rw [e1] at o1
  rw [e2] at o2
  rw [e3] at o3
  rw [e4] at o4
  generalize X5.alloc (Obj.cells #[.slice (some ⟨W0.heap.size, 0, none⟩) 3 3, .slice (some ⟨(W0.heap.size + 1), 0, none⟩) 3 3, .slice (some ⟨(W0.heap.size + 1 + 1), 0, none⟩) 3 3, .slice (some ⟨(W0.heap.size + 1 + 1 + 1), 0, none⟩) 4 4, .slice (some ⟨(W0.heap.size + 1 + 1 + 1 + 1), 0, none⟩) 4 4] 24) = X6 at *
  have q45 := q4.trans q5
  have q35 := q3.trans q45
  have q25 := q2.trans q35
  have q15 := q1.trans q25
  refine ⟨fun _ => ⟨_, rfl, o5.1, fun i k hk => ?_⟩, q0.trans q15⟩
  match i, hk with
  | 0, hk =>
    obtain rfl : [0, 0, 0] = k := by simpa [ex10K] using hk
    exact ⟨some ⟨W0.heap.size, 0, none⟩, 3, Nat.le_refl _, by rw [Hs.add_zero_head]; exact (o5.2 0 _ rfl).1, own_ints (l := [0, 0, 0]) (o0.q q15)⟩
  | 1, hk =>
    obtain rfl : [1, 0, 0] = k := by simpa [ex10K] using hk
    exact ⟨some ⟨(W0.heap.size + 1), 0, none⟩, 3, Nat.le_refl _, by rw [Hs.add_zero_head]; exact (o5.2 1 _ rfl).1, own_ints (l := [1, 0, 0]) (o1.q q25)⟩
  | 2, hk =>
    obtain rfl : [2, 0, 0] = k := by simpa [ex10K] using hk
    exact ⟨some ⟨(W0.heap.size + 1 + 1), 0, none⟩, 3, Nat.le_refl _, by rw [Hs.add_zero_head]; exact (o5.2 2 _ rfl).1, own_ints (l := [2, 0, 0]) (o2.q q35)⟩
  | 3, hk =>
    obtain rfl : [3, 0, 0, 2] = k := by simpa [ex10K] using hk
    exact ⟨some ⟨(W0.heap.size + 1 + 1 + 1), 0, none⟩, 4, Nat.le_refl _, by rw [Hs.add_zero_head]; exact (o5.2 3 _ rfl).1, own_ints (l := [3, 0, 0, 2]) (o3.q q45)⟩
  | 4, hk =>
    obtain rfl : [3, 0, 0, 1] = k := by simpa [ex10K] using hk
    exact ⟨some ⟨(W0.heap.size + 1 + 1 + 1 + 1), 0, none⟩, 4, Nat.le_refl _, by rw [Hs.add_zero_head]; exact (o5.2 4 _ rfl).1, own_ints (l := [3, 0, 0, 1]) (o4.q q5)⟩
  | i + 5, hk => simp [ex10K] at hk
theorem field_way (k : Int) (A : Option Addr) (n c : Nat) (u : World) : (Instr.field 33 (.agg #[.int .i64 k, .slice A n c]) 0).run Try.prog u = .ok (.int .i64 k) u := by kernel_rfl
set_option maxRecDepth 100000 in
set_option maxHeartbeats 4000000 in
theorem shown10_any (w : World) : Calls Try.prog 9 #[] w fun e w' => e = .returned (.bool true) ∧ Q w w' := by
  have HR0 := Lib.hid (ex10_row w)
  have HQ0 := Lib.hid ((Q.refl w).alloc (Obj.cells #[.string ⟨#[99]⟩, .string ⟨#[43]⟩] 55))
  go_enter Try.func9, Try.ntmps9
  go_upto_region 2 with fail
  generalize w.alloc (Obj.cells #[.string ⟨#[99]⟩, .string ⟨#[43]⟩] 55) = W0 at *
  obtain ⟨hk, hq⟩ := ex10_keys W0
  have HK := Lib.hid hk
  have HQ1 := Lib.hid hq
  clear hk hq
  go_upto_region 3 with fail
  generalize hX : ((((((W0.alloc (Obj.cells #[.int .i64 0, .int .i64 0, .int .i64 0] 3)).alloc (Obj.cells #[.int .i64 1, .int .i64 0, .int .i64 0] 3)).alloc (Obj.cells #[.int .i64 2, .int .i64 0, .int .i64 0] 3)).alloc (Obj.cells #[.int .i64 3, .int .i64 0, .int .i64 0, .int .i64 2] 3)).alloc (Obj.cells #[.int .i64 3, .int .i64 0, .int .i64 0, .int .i64 1] 3)).alloc (Obj.cells #[.slice (some ⟨W0.heap.size, 0, none⟩) 3 3, .slice (some ⟨(W0.heap.size + 1), 0, none⟩) 3 3, .slice (some ⟨(W0.heap.size + 1 + 1), 0, none⟩) 3 3, .slice (some ⟨(W0.heap.size + 1 + 1 + 1), 0, none⟩) 4 4, .slice (some ⟨(W0.heap.size + 1 + 1 + 1 + 1), 0, none⟩) 4 4] 24)) = X6 at *
  clear hX
  go_wp2_with fail
  refine (refLay_any _ _ _ ex10K X6 rfl HK.out (by decide) (by decide)).mono ?_
  rintro e w1 ⟨g, rfl, _, _, q1⟩
  have qb := q1.alloc (Obj.cells #[.slice (some ⟨W0.heap.size + 1 + 1 + 1 + 1 + 1, 0, none⟩) 5 5, .slice (some ⟨g, 0, none⟩) (Hs.sizeN ex10K.length) (Hs.sizeN ex10K.length)] 26)
  have HT := Lib.hid (BoxT.new w1 (.slice (some ⟨W0.heap.size + 1 + 1 + 1 + 1 + 1, 0, none⟩) 5 5) (.slice (some ⟨g, 0, none⟩) (Hs.sizeN ex10K.length) (Hs.sizeN ex10K.length)) 26)
  have hrow := HR0.out
  have CO : ∀ U z v, Q W0 U → Q X6 U → Calls Try.prog 11 #[.slice (some ⟨w.heap.size, 0, none⟩) 1 1, .agg #[.slice (some ⟨W0.heap.size + 1 + 1 + 1 + 1 + 1, 0, none⟩) 5 5, .slice (some ⟨g, 0, none⟩) (Hs.sizeN ex10K.length) (Hs.sizeN ex10K.length)], .int .i64 z, .int .i64 v] U (WayPost (stepF ex10L ex10K z v) U) := fun U z v p p2 => step10_any _ _ _ 1 1 5 5 _ _ ex10L ex10K z v U rfl ((hrow.q (Nat.le_refl _) p).more p.size) rfl ((HK.out.q (Nat.le_refl _) p2).more p2.size) ex10_store (by decide) (by decide) (by decide)
  have C1 := Lib.hid (fun U p p2 => CO U 3 4 p p2)
  have C2 := Lib.hid (fun U p p2 => CO U 2 3 p p2)
  have C3 := Lib.hid (fun U p p2 => CO U 1 3 p p2)
  have C4 : Hid (∀ U, Q W0 U → Q X6 U → Calls Try.prog 14 #[.slice (some ⟨w.heap.size, 0, none⟩) 1 1, .agg #[.slice (some ⟨W0.heap.size + 1 + 1 + 1 + 1 + 1, 0, none⟩) 5 5, .slice (some ⟨g, 0, none⟩) (Hs.sizeN ex10K.length) (Hs.sizeN ex10K.length)], .int .i64 3, .int .u8 76] U fun e w' => e = .returned (.bool true) ∧ Q U w') := fun U p p2 => by
    have := sided10_any (some ⟨w.heap.size, 0, none⟩) (some ⟨W0.heap.size + 1 + 1 + 1 + 1 + 1, 0, none⟩) (some ⟨g, 0, none⟩) 1 1 5 5 (Hs.sizeN ex10K.length) (Hs.sizeN ex10K.length) ex10L ex10K 3 76 U rfl ((hrow.q (Nat.le_refl _) p).more p.size) rfl ((HK.out.q (Nat.le_refl _) p2).more p2.size) ex10_store (by decide) (by decide) (by decide) (by decide)
    rw [ex10_d] at this
    exact this
  unfold Hid at C1 C2 C3
  simp only [ex10_a, ex10_b, ex10_c] at C1 C2 C3
  have D1 := Lib.hid C1
  have D2 := Lib.hid C2
  have D3 := Lib.hid C3
  have HQX := Lib.hid qb
  generalize Hs.sizeN ex10K.length = sN at *
  clear CO C1 C2 C3 hrow q1 qb
  go_upto_region 4 with fail
  generalize w1.alloc (Obj.cells #[.slice (some ⟨W0.heap.size + 1 + 1 + 1 + 1 + 1, 0, none⟩) 5 5, .slice (some ⟨g, 0, none⟩) sN sN] 26) = W2 at *
  have b0 := HT.out.c0
  have b1 := HT.out.c1
  go_wp2_with fail
  refine (D1.out W2 (HQ1.out.trans HQX.out) HQX.out).mono ?_
  rintro e w3 ⟨A3, c3, rfl, hr3, q3, _⟩
  obtain ⟨ad, rfl, had, e0, e1⟩ := pair_at hr3 (k := 0) (by decide)
  have q4 := (Q.refl w3).alloc (Obj.cells #[.int .i64 1, .slice (some ad) 1 c3] 33)
  have HBW := Lib.hid (Ex.own_new8 w3 [.int .i64 1, .slice (some ad) 1 c3] 33)
  have HT4 := Lib.hid ((HT.out.q q3).q q4)
  have HX4 := Lib.hid ((HQX.out.trans q3).trans q4)
  have f0 : (w3.alloc (Obj.cells #[.int .i64 1, .slice (some ad) 1 c3] 33)).cell? ad = some (.int .i64 2) := (q4.cell (p := ad) had).trans (by simpa [Addr.add] using e0)
  have f1 : (w3.alloc (Obj.cells #[.int .i64 1, .slice (some ad) 1 c3] 33)).cell? ⟨ad.block, ad.off + 1, none⟩ = some (.int .i64 1) := (q4.cell (p := ⟨ad.block, ad.off + 1, none⟩) had).trans (by simpa [Addr.add] using e1)
  clear e0 e1 b0 b1 hr3 q3 q4 HT HQX had
  have hfld := field_way
  have heq : ∀ u, (binOp .eql 46 (.agg #[.int .i64 2, .int .i64 1]) (.agg #[.int .i64 2, .int .i64 1])).run Try.prog u = .ok (.bool true) u := fun u => run_eql_pair u (2, 1) (2, 1)
  go_upto_region 5 with fail
  generalize w3.alloc (Obj.cells #[.int .i64 1, .slice (some ad) 1 c3] 33) = W4 at *
  have k0 := (HBW.out.2 0 _ rfl).1
  have k1 := (HBW.out.2 1 _ rfl).1
  have b0 := HT4.out.c0
  have b1 := HT4.out.c1
  go_wp2_with fail
  refine (D2.out _ (HQ1.out.trans HX4.out) HX4.out).mono ?_
  rintro e w5 ⟨A5, c5, rfl, _, q5, _⟩
  have HX5 := Lib.hid (HX4.out.trans q5)
  have HT5 := Lib.hid (HT4.out.q q5)
  clear b0 b1 k0 k1 f0 f1 q5
  have b0 := HT5.out.c0
  have b1 := HT5.out.c1
  go_wp2_with fail
  refine (D3.out _ (HQ1.out.trans HX5.out) HX5.out).mono ?_
  rintro e w6 ⟨A6, c6, rfl, _, q6, _⟩
  have HX6 := Lib.hid (HX5.out.trans q6)
  have HT6 := Lib.hid (HT5.out.q q6)
  clear b0 b1 q6
  have b0 := HT6.out.c0
  have b1 := HT6.out.c1
  go_wp2_with fail
  refine (C4.out _ (HQ1.out.trans HX6.out) HX6.out).mono ?_
  rintro e w7 ⟨rfl, q7⟩
  have HX7 := Lib.hid (HX6.out.trans q7)
  go_wp2_with fail
  go_ret
  exact ⟨rfl, HQ0.out.trans (HQ1.out.trans HX7.out)⟩
end Go.Proofs.Ytjehccemilefgaa.St

namespace Go.Proofs.Ytjehccemilefgaa.St
open Go.RowKit Kit Rw
open Go.Proofs.Ytjehccemilefgaa.Sg (Sig Row)
open Go.Proofs.Ytjehccemilefgaa.Tm (Store of10B store_iff Wf)
open Go.Proofs.Ytjehccemilefgaa.Hs (few_sum mem_len fewB)
theorem right10_at {L : List Sg.Sig} (h : Sg.rightB L = true) : ∀ (j : Nat) (hj : j < L.length), Sg.conB L[j].1 = true ∧ Sg.partsB L[j].2 = true ∧ Sg.findI L[j].1 L 0 = (j : Int) := by
  unfold Sg.rightB at h
  rw [Bool.and_eq_true] at h
  have all : ∀ (m k : Nat), k + m = L.length → Sg.rightG L (L.drop k) k = true → ∀ (j : Nat) (hj : j < L.length), k ≤ j → Sg.conB L[j].1 = true ∧ Sg.partsB L[j].2 = true ∧ Sg.findI L[j].1 L 0 = (j : Int) := by
    intro m
    induction m with
    | zero => intro k hk _ j hj hkj; omega
    | succ m ih =>
      intro k hk hg j hj hkj
      have hkl : k < L.length := by omega
      rw [Sg.rightG_at L L k hkl, Bool.and_eq_true, Bool.and_eq_true, Bool.and_eq_true, beq_iff_eq] at hg
      obtain ⟨⟨⟨h1, h2⟩, h3⟩, h4⟩ := hg
      rcases Nat.lt_or_eq_of_le hkj with h5 | h5
      · exact ih (k + 1) (by omega) h4 j hj h5
      · subst h5; exact ⟨h1, h2, h3⟩
  exact fun j hj => all L.length 0 (by omega) (by simpa using h.2) j hj (Nat.zero_le _)
theorem of10_ok {L : List Sig} {ks : List (List Int)} {sl : List Int} (h : of10B L ks sl = true) : Store L ks ∧ (∀ s ∈ L, s.2.size ≤ 8) ∧ (∀ k ∈ ks, k.length ≤ 100000) ∧ ks.length ≤ 2000 := by
  unfold of10B at h
  simp only [Bool.and_eq_true] at h
  obtain ⟨⟨⟨_, hR⟩, hf⟩, hst⟩ := h
  have hsum := few_sum hf
  refine ⟨((store_iff _ _ _).1 hst).1, fun s hs => ?_, fun k hk => ?_, by omega⟩
  · obtain ⟨j, hj, rfl⟩ := List.getElem_of_mem hs
    have := (right10_at hR j hj).2.1
    unfold Sg.partsB Sg.argsB at this
    rw [Bool.and_eq_true, decide_eq_true_eq] at this
    simpa using this.1
  · have := mem_len hk
    omega
theorem wf_of {x : Int} (h : (Lit.int .i64 x).wf = true) : Wf x := wf_of_lit h
end Go.Proofs.Ytjehccemilefgaa.St
