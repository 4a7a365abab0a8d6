/-
  What the proofs lean on, part 9 of 20.
-/
import Derived.Test.YtnifmfdlocgefaaGreatPd
import Derived.Test.YtnifmfdlocgefaaGreatPe
import Derived.Test.YtnifmfdlocgefaaGreatPf
import Derived.Test.YtnifmfdlocgefaaGreatPg
import Derived.Test.YtnifmfdlocgefaaGreatPh
namespace Go.Proofs.YtnifmfdlocgefaaGreat.Ig
open Go.RowKit Kit Tr Uf

def GrowPost (K : Nat → Prop) (c : Cells) (w : World) (e : Ending) (w' : World) : Prop :=
  ∃ A k1 D k2 E k3, e = .returned (.agg #[.slice A c.V.length k1, .slice D c.N.length k2, .slice E c.M.length k3]) ∧ CR w' (fun b => K b ∨ w.heap.size ≤ b) c A k1 D k2 E k3 ∧ Q w w'
theorem own_q {w w' : World} {base n size : Nat} {e : TypeId} {v : Value} {cs : List Value} (h : w.ownsRow base e size v n cs) (q : Q w w') : w'.ownsRow base e size v n cs :=
  h.kept (row := none) ⟨q.os, q.tape, q.output, q.size, fun k hk _ => q.block k hk⟩ (Decidable.byCases (fun e => .inl e) (fun e => .inr e))
theorem fin_grow {K : Nat → Prop} {c : Cells} {x : Int} {E : Option Addr} {k3 n5 c5 nn cn B m0 m1 : Nat} {A5 An : Option Addr} {cs cn5 : List Value} {w w5 : World} (y1 y2 y3 : Value) (own : w5.ownsRow m0 3 1 (.slice A5 n5 c5) n5 cs) (hn5 : n5 = c.V.length + 1) (hc5 : n5 ≤ c5) (hcs : cs = cellsI (c.V ++ [x]))
    (ownn : w5.ownsRow m1 195 2 (.slice An nn cn) nn cn5) (hnn : nn = c.N.length + 1) (hcn : nn ≤ cn) (hcn5 : cn5 = cellsP (c.N ++ [((-1 : Int), (0 : Int))])) (hm : B < m0 ∧ B < m1) (hE : RdsP w K E (cellsI c.M)) (hk3 : c.M.length ≤ k3) (hQ : Q w w5) (hB : w.heap.size ≤ B) :
    CR (((w5.setCell ⟨B, 0, none⟩ y1).setCell ⟨B, 1, none⟩ y2).setCell ⟨B, 2, none⟩ y3) (fun b => K b ∨ w.heap.size ≤ b) (growC c x) A5 c5 An cn E k3 ∧ Q w (((w5.setCell ⟨B, 0, none⟩ y1).setCell ⟨B, 1, none⟩ y2).setCell ⟨B, 2, none⟩ y3) := by
  have gr := set3_grown w5 B y1 y2 y3
  have q := grown_q gr hQ hB
  have h1 := own.kept gr (.inr (fun e => by have := (own.lt _ e).1; omega))
  have h2 := ownn.kept gr (.inr (fun e => by have := (ownn.lt _ e).1; omega))
  obtain ⟨A6, c6, e6, _, ho⟩ := own_o h1
  injection e6 with e1 e2 e3
  subst e1 e3
  obtain ⟨A7, c7, e7, _, ho2⟩ := own_o h2
  injection e7 with e1 e2 e3
  subst e1 e3
  rw [hcs] at ho
  rw [hcn5] at ho2
  exact ⟨⟨RdsP.of_owno ho (fun b hb => .inr (by omega)), RdsP.of_owno ho2 (fun b hb => .inr (by omega)), hE.toP (agree_q (P := K) q).1 (agree_q q).2 (fun b hb _ => .inl hb), by simp [growC]; omega, by simp [growC]; omega, hk3⟩, q⟩

set_option maxRecDepth 100000 in
set_option maxHeartbeats 4000000 in
theorem refGrow4_any (K : Nat → Prop) (c : Cells) (x : Int) (A D E : Option Addr) (k1 k2 k3 : Nat) (w : World) (hc : CR w K c A k1 D k2 E k3) (hf : Few c 1000000) :
    Calls Tryz.prog 260 #[.agg #[.slice A c.V.length k1, .slice D c.N.length k2, .slice E c.M.length k3], .int .i64 x] w (GrowPost K (growC c x) w) := by
  have h := hc.rd
  obtain ⟨W0, hW0, q0, hz0, hB, hX⟩ := boxes w (Value.slice A c.V.length k1) (Value.slice D c.N.length k2) (Value.slice E c.M.length k3) 29
  have HB := Lib.hid hB
  have HX := Lib.hid hX
  have HR := Lib.hid (h.q q0)
  have HZ := Lib.hid hz0
  have HW := Lib.hid hW0
  have HFw := Lib.hid hf
  have HQ0 := Lib.hid q0
  have HE := Lib.hid hc.m
  have Hk3 := Lib.hid h.lm
  clear hc
  obtain ⟨i0, hi0, hz0', hz1, hz2⟩ := info_parts intInfo
  have Hi := Lib.hid hi0
  have Hz0 := Lib.hid hz0'
  have Hz1 := Lib.hid hz1
  have Hz2 := Lib.hid hz2
  obtain ⟨i0', hi0', hz0'', hz1', hz2'⟩ := info_parts noteInfo
  have Hi' := Lib.hid hi0'
  have Hz0' := Lib.hid hz0''
  have Hz1' := Lib.hid hz1'
  have Hz2' := Lib.hid hz2'
  have HQe := Lib.hid ((Q.refl W0).alloc (Obj.cells #[] 195))
  have Hsrc : Hid (Src (W0.alloc (Obj.cells #[] 195)) D (cellsP c.N)) := Lib.hid ((h.q q0).q HQe.out).n.src
  have Ho := Lib.hid (own_empty (base := W0.heap.size) (e := 195) (size := 2) (Nat.le_refl _) (heap_alloc_new W0 (Obj.cells #[] 195)))
  clear hW0 hz0 hB hX h hf hi0 hz0' hz1 hz2 hi0' hz0'' hz1' hz2' q0
  go_enter Tryz.func260, Tryz.ntmps260
  go_upto_region 1 with fail
  rw [← HW.out]
  clear HW
  have c1 := (HB.out.q HQe.out).c1
  go_upto_region 2 with (first
    | (at_builtin; refine wpList_append_src _ rfl (.tmp 6) (.tmp 8) _ rfl W0.heap.size 195 i0' _ 2 16 Tryz.underlying27 Hi'.out Hz0'.out Hz1'.out Hz2'.out rfl (by omega) (.slice (some ⟨W0.heap.size, 0, none⟩) 0 0) 0 [] rfl Ho.out D c.N.length k2 (cellsP c.N) rfl (cellsP_len _) Hsrc.out (cellsP_one _) (by have := HFw.out.2.1; unfold maxLen; omega) (by have := HFw.out.2.1; omega) (by simp) ?_; intro v1 w1 own1 gr1 _; have HO1 := Lib.hid own1; have HQ1 : Hid (Q W0 w1) := Lib.hid (HQe.out.grown gr1 (by simp) (by simp [Value.ownBlock])); clear own1 gr1 c1)
    | (at_builtin; refine wpList_append_src _ rfl (.tmp 9) (.tmp 11) _ rfl W0.heap.size 195 i0' _ 2 16 Tryz.underlying27 Hi'.out Hz0'.out Hz1'.out Hz2'.out rfl (by omega) v1 (0 + c.N.length) ([] ++ cellsP c.N) rfl (HO1.out.alloc (Obj.cells #[.int .i64 (-1), .int .i64 0] 195)) (some ⟨w1.heap.size, 0, none⟩) 1 1 [.int .i64 (-1), .int .i64 0] rfl rfl (src_block (cs := #[.int .i64 (-1), .int .i64 0]) (heap_alloc_new w1 (Obj.cells #[.int .i64 (-1), .int .i64 0] 195))) (by simp [Value.oneCell']) (by have := HFw.out.2.1; unfold maxLen; omega) (by have := HFw.out.2.1; omega) (HQ1.out.alloc (Obj.cells #[.int .i64 (-1), .int .i64 0] 195)).size ?_; intro v3 w3 own3 gr3 _; have Own3 := Lib.hid own3; have HQa : Hid (Q W0 w3) := Lib.hid ((HQ1.out.alloc (Obj.cells #[.int .i64 (-1), .int .i64 0] 195)).grown gr3 (HQ1.out.alloc (Obj.cells #[.int .i64 (-1), .int .i64 0] 195)).size (fun b hb => (HO1.out.lt b hb).1)); clear own3 gr3))
  obtain ⟨An, cn, nn, hnn, rfl, hcn⟩ := own_read3 Own3.out
  have Hnn : Hid (nn = c.N.length + 1) := by unfold Hid; omega
  rw [← hnn] at Own3
  have Hcn := Lib.hid hcn
  have HQ3 := Lib.hid (HQ0.out.trans HQa.out)
  have HB3 := Lib.hid (HB.out.q HQa.out)
  have HX3 := Lib.hid (HX.out.q HQa.out)
  have HR3 := Lib.hid (HR.out.q HQa.out)
  have HLo : Hid (w.heap.size + 1 < w3.heap.size ∧ w.heap.size + 1 < W0.heap.size) := by have h1 := HZ.out; have h2 := HQa.out.size; unfold Hid; omega
  clear hnn hcn HO1 HQ1 Hsrc Ho HQe HB HX HR
  have ALL : Hid (∀ U, Q w3 U → U.cell? ⟨w.heap.size, 0, none⟩ = some (.slice A c.V.length k1) ∧ U.cell? ⟨w.heap.size, 2, none⟩ = some (.slice E c.M.length k3)) := fun U q => ⟨(HB3.out.q q).c0, (HB3.out.q q).c2⟩
  obtain ⟨s0, s1⟩ := ALL.out w3 (Q.refl _)
  refine begin_t (S := fun w' => w'.cell? ⟨w.heap.size, 0, none⟩ = some (.slice A c.V.length k1) ∧ w'.cell? ⟨w.heap.size, 2, none⟩ = some (.slice E c.M.length k3)) (z := 11) (by kernel_rfl) ?_ (fun hHeld => ?_)
  · exact ALL.out _ (Q.refl w3).drew
  refine take_y (i := 1) (d := some 14) (v := ?_) rfl (by kernel_rfl) (by kernel_rfl) (by kernel_rfl) (by kernel_rfl) (fun _ _ _ h => h) rfl (by rfl) ?_ (by assumption) ?_
  rotate_left
  · (intro w; go_simp; (try with_reducible rfl))
  try simp only [Act.put, List.setIfInBounds_toArray, List.set_cons_zero, List.set_cons_succ]
  refine take_t (i := 2) (d := some 15) (v := ?_) rfl (by kernel_rfl) (by kernel_rfl) (by kernel_rfl) (by kernel_rfl) (fun _ _ _ h => h) rfl (by rfl) ?_ (by assumption) ?_
  rotate_left
  · (intro w hSw; (try dsimp only at hSw); go_simp; (try with_reducible rfl))
  try simp only [Act.put, List.setIfInBounds_toArray, List.set_cons_zero, List.set_cons_succ]
  refine take_y (i := 4) (d := some 17) (v := ?_) rfl (by kernel_rfl) (by kernel_rfl) (by kernel_rfl) (by kernel_rfl) (fun _ _ _ h => h) rfl (by rfl) ?_ (by assumption) ?_
  rotate_left
  · (intro w; go_simp; (try with_reducible rfl))
  try simp only [Act.put, List.setIfInBounds_toArray, List.set_cons_zero, List.set_cons_succ]
  refine take_y (i := 7) (d := some 20) (v := ?_) rfl (by kernel_rfl) (by kernel_rfl) (by kernel_rfl) (by kernel_rfl) (fun _ _ _ h => h) rfl (by rfl) ?_ (by assumption) ?_
  rotate_left
  · (intro w; go_simp; (try with_reducible rfl))
  try simp only [Act.put, List.setIfInBounds_toArray, List.set_cons_zero, List.set_cons_succ]
  refine take_y (i := 8) (d := some 21) (v := ?_) rfl (by kernel_rfl) (by kernel_rfl) (by kernel_rfl) (by kernel_rfl) (fun _ _ _ h => h) rfl (by rfl) ?_ (by assumption) ?_
  rotate_left
  · (intro w; go_simp; (try with_reducible rfl))
  try simp only [Act.put, List.setIfInBounds_toArray, List.set_cons_zero, List.set_cons_succ]
  refine take_t (i := 9) (d := some 22) (v := ?_) rfl (by kernel_rfl) (by kernel_rfl) (by kernel_rfl) (by kernel_rfl) (fun _ _ _ h => h) rfl (by rfl) ?_ (by assumption) ?_
  rotate_left
  · (intro w hSw; (try dsimp only at hSw); go_simp; (try with_reducible rfl))
  try simp only [Act.put, List.setIfInBounds_toArray, List.set_cons_zero, List.set_cons_succ]
  refine both_t (i := 0) (j := 5) rfl rfl (by kernel_rfl) (by rfl) (by rfl) (fun K hK => ?_) (fun K hK => ?_)
  · go_simp
    have hHeld : ((fun w' => w'.cell? ⟨w.heap.size, 0, none⟩ = some (.slice A c.V.length k1) ∧ w'.cell? ⟨w.heap.size, 2, none⟩ = some (.slice E c.M.length k3)) : World → Prop) _ := ALL.out _ ((Q.refl w3).drew.alloc (Obj.cells #[] 3))
    refine hK.out _ _ (fun _ => hHeld) ?_
    clear hK K
    try simp only [Act.put, List.setIfInBounds_toArray, List.set_cons_zero, List.set_cons_succ]
    refine both_t (i := 3) (j := 5) rfl rfl (by kernel_rfl) (by rfl) (by rfl) (fun K hK => ?_) (fun K hK => ?_)
    · refine wp_append_src _ (.tmp 13) (.tmp 15) _ rfl w3.heap.size 3 i0 _ 1 8 Tryz.underlying24 Hi.out Hz0.out Hz1.out Hz2.out rfl (by omega) (.slice (some ⟨w3.heap.size, 0, none⟩) 0 0) 0 [] rfl (own_empty (Nat.le_refl _) (heap_alloc_new w3.drew (Obj.cells #[] 3))) A c.V.length k1 (cellsI c.V) rfl (by rw [cellsI_len]; omega) (HR3.out.q ((Q.refl w3).drew.alloc (Obj.cells #[] 3))).v.src (cellsI_one _) (by have := HFw.out.1; unfold maxLen; omega) (by have := HFw.out.1; omega) (by simp <;> omega) ?_
      intro v4 w4 own4 gr4 at4
      have HQ4 : Hid (Q w3 w4) := Lib.hid (((Q.refl w3).drew.alloc (Obj.cells #[] 3)).grown gr4 (by simp <;> omega) (by simp [Value.ownBlock] <;> omega))
      have Own4 := Lib.hid own4
      clear own4 gr4 at4
      have hHeld : ((fun w' => w'.cell? ⟨w.heap.size, 0, none⟩ = some (.slice A c.V.length k1) ∧ w'.cell? ⟨w.heap.size, 2, none⟩ = some (.slice E c.M.length k3)) : World → Prop) _ := ALL.out _ HQ4.out
      refine hK.out _ _ (fun _ => hHeld) ?_
      clear hK K
      try simp only [Act.put, List.setIfInBounds_toArray]
      refine call_t (i := 5) rfl (by kernel_rfl) (by rfl) (fun K hK => ?_)
      go_simp
      have hHeld : ((fun w' => w'.cell? ⟨w.heap.size, 0, none⟩ = some (.slice A c.V.length k1) ∧ w'.cell? ⟨w.heap.size, 2, none⟩ = some (.slice E c.M.length k3)) : World → Prop) _ := ALL.out _ (HQ4.out.alloc (Obj.cells #[.int .i64 x] 3))
      refine hK.out _ _ (fun _ => hHeld) ?_
      clear hK K
      try simp only [Act.put, List.setIfInBounds_toArray]
      refine call_t (i := 6) rfl (by kernel_rfl) (by rfl) (fun K hK => ?_)
      have own4' := Own4.out.alloc (Obj.cells #[.int .i64 x] 3)
      have HQ4 := Lib.hid (HQ4.out.alloc (Obj.cells #[.int .i64 x] 3))
      refine wp_append_src _ (.tmp 16) (.tmp 18) _ rfl w3.heap.size 3 i0 _ 1 8 Tryz.underlying24 Hi.out Hz0.out Hz1.out Hz2.out rfl (by omega) v4 (0 + c.V.length) ([] ++ cellsI c.V) rfl own4' (some ⟨w4.heap.size, 0, none⟩) 1 1 [.int .i64 x] rfl rfl (src_block (cs := #[.int .i64 x]) (heap_alloc_new w4 (Obj.cells #[.int .i64 x] 3))) (by simp [Value.oneCell']) (by have := HFw.out.1; unfold maxLen; omega) (by have := HFw.out.1; omega) (HQ4.out.size) ?_
      intro v5 w5 own5 gr5 at5
      have HQ5 : Hid (Q w3 w5) := Lib.hid (HQ4.out.grown gr5 HQ4.out.size (fun b hb => (own4'.lt b hb).1))
      rw [Nat.zero_add] at own5
      obtain ⟨A5, c5, rfl, hc5, -⟩ := own_o own5
      have Own5 := Lib.hid own5
      have Hc5 := Lib.hid hc5
      clear own5 gr5 at5 hc5
      have hHeld : ((fun w' => w'.cell? ⟨w.heap.size, 0, none⟩ = some (.slice A c.V.length k1) ∧ w'.cell? ⟨w.heap.size, 2, none⟩ = some (.slice E c.M.length k3)) : World → Prop) _ := ALL.out _ HQ5.out
      refine hK.out _ _ (fun _ => hHeld) ?_
      clear hK K
      try simp only [Act.put, List.setIfInBounds_toArray]
      refine call_t (i := 10) rfl (by kernel_rfl) (by rfl) (fun K hK => ?_)
      go_simp
      have hHeld : ((fun w' => w'.cell? ⟨w.heap.size, 0, none⟩ = some (.slice A c.V.length k1) ∧ w'.cell? ⟨w.heap.size, 2, none⟩ = some (.slice E c.M.length k3)) : World → Prop) _ := ALL.out _ HQ5.out
      refine hK.out _ _ (fun _ => hHeld) ?_
      clear hK K
      try simp only [Act.put]
      have hx := HX3.out.q HQ5.out
      have HX5 := Lib.hid hx
      have x0 := hx.c0
      have x1 := hx.c1
      have x2 := hx.c2
      have u0 := hx.f0
      have u1 := hx.f1
      have u2 := hx.f2
      clear s0 s1 hx
      refine call_t (i := 11) rfl (by kernel_rfl) (by rfl) (fun K hK => ?_)
      go_simp
      refine hK.out _ _ (fun hz => by cases hz) ?_
      clear hK K
      try simp only [Act.put]
      refine done_t (by kernel_rfl) ?_ _
      go_wp2_with fail
      have hz := HX5.out.all (.slice A5 (c.V.length + 1) c5) (.slice An nn cn) (.slice E c.M.length k3)
      have y0 := hz.c0
      have y1 := hz.c1
      have y2 := hz.c2
      obtain ⟨hRd, hQd⟩ := fin_grow (x := x) (.slice A5 (c.V.length + 1) c5) (.slice An nn cn) (.slice E c.M.length k3) Own5.out (by omega) Hc5.out (by rw [List.nil_append, cellsI_append]; rfl) (own_q Own3.out HQ5.out) Hnn.out Hcn.out (by rw [List.nil_append, cellsP_append]; rfl) HLo.out HE.out Hk3.out (HQ3.out.trans HQ5.out) (Nat.le_succ _)
      refine bodyPost_ret (v := .agg #[.slice A5 (c.V.length + 1) c5, .slice An nn cn, .slice E c.M.length k3]) (by simp [results, Tryz.f260, go_sem, y0, y1, y2]) rfl ⟨_, c5, _, cn, _, k3, ?_, hRd, hQd⟩
      rw [show (growC c x).V.length = c.V.length + 1 by simp [growC], show (growC c x).N.length = nn by rw [Hnn.out]; simp [growC]]
      rfl
    · go_simp
      have hHeld : ((fun w' => w'.cell? ⟨w.heap.size, 0, none⟩ = some (.slice A c.V.length k1) ∧ w'.cell? ⟨w.heap.size, 2, none⟩ = some (.slice E c.M.length k3)) : World → Prop) _ := ALL.out _ (((Q.refl w3).drew.alloc (Obj.cells #[] 3)).alloc (Obj.cells #[.int .i64 x] 3))
      refine hK.out _ _ (fun _ => hHeld) ?_
      clear hK K
      try simp only [Act.put, List.setIfInBounds_toArray, List.set_cons_zero, List.set_cons_succ]
      refine call_t (i := 3) rfl (by kernel_rfl) (by rfl) (fun K hK => ?_)
      refine wp_append_src _ (.tmp 13) (.tmp 15) _ rfl w3.heap.size 3 i0 _ 1 8 Tryz.underlying24 Hi.out Hz0.out Hz1.out Hz2.out rfl (by omega) (.slice (some ⟨w3.heap.size, 0, none⟩) 0 0) 0 [] rfl (own_empty (Nat.le_refl _) (heap_two_old w3.drew (Obj.cells #[] 3) (Obj.cells #[.int .i64 x] 3))) A c.V.length k1 (cellsI c.V) rfl (by rw [cellsI_len]; omega) (HR3.out.q (((Q.refl w3).drew.alloc (Obj.cells #[] 3)).alloc (Obj.cells #[.int .i64 x] 3))).v.src (cellsI_one _) (by have := HFw.out.1; unfold maxLen; omega) (by have := HFw.out.1; omega) (by simp <;> omega) ?_
      intro v4 w4 own4 gr4 at4
      have HQ4 : Hid (Q w3 w4) := Lib.hid ((((Q.refl w3).drew.alloc (Obj.cells #[] 3)).alloc (Obj.cells #[.int .i64 x] 3)).grown gr4 (by simp <;> omega) (by simp [Value.ownBlock] <;> omega))
      have hb4 := far_block gr4 (heap_two_new w3.drew (Obj.cells #[] 3) (Obj.cells #[.int .i64 x] 3)) (by simp [Value.ownBlock])
      have own4' := own4
      clear own4 gr4 at4
      have hHeld : ((fun w' => w'.cell? ⟨w.heap.size, 0, none⟩ = some (.slice A c.V.length k1) ∧ w'.cell? ⟨w.heap.size, 2, none⟩ = some (.slice E c.M.length k3)) : World → Prop) _ := ALL.out _ HQ4.out
      refine hK.out _ _ (fun _ => hHeld) ?_
      clear hK K
      try simp only [Act.put, List.setIfInBounds_toArray]
      refine call_t (i := 6) rfl (by kernel_rfl) (by rfl) (fun K hK => ?_)
      refine wp_append_src _ (.tmp 16) (.tmp 18) _ rfl w3.heap.size 3 i0 _ 1 8 Tryz.underlying24 Hi.out Hz0.out Hz1.out Hz2.out rfl (by omega) v4 (0 + c.V.length) ([] ++ cellsI c.V) rfl own4' (some ⟨w3.heap.size + 1, 0, none⟩) 1 1 [.int .i64 x] rfl rfl (src_block (cs := #[.int .i64 x]) hb4) (by simp [Value.oneCell']) (by have := HFw.out.1; unfold maxLen; omega) (by have := HFw.out.1; omega) (HQ4.out.size) ?_
      intro v5 w5 own5 gr5 at5
      have HQ5 : Hid (Q w3 w5) := Lib.hid (HQ4.out.grown gr5 HQ4.out.size (fun b hb => (own4'.lt b hb).1))
      rw [Nat.zero_add] at own5
      obtain ⟨A5, c5, rfl, hc5, -⟩ := own_o own5
      have Own5 := Lib.hid own5
      have Hc5 := Lib.hid hc5
      clear own5 gr5 at5 hc5
      have hHeld : ((fun w' => w'.cell? ⟨w.heap.size, 0, none⟩ = some (.slice A c.V.length k1) ∧ w'.cell? ⟨w.heap.size, 2, none⟩ = some (.slice E c.M.length k3)) : World → Prop) _ := ALL.out _ HQ5.out
      refine hK.out _ _ (fun _ => hHeld) ?_
      clear hK K
      try simp only [Act.put]
      refine call_t (i := 10) rfl (by kernel_rfl) (by rfl) (fun K hK => ?_)
      go_simp
      have hHeld : ((fun w' => w'.cell? ⟨w.heap.size, 0, none⟩ = some (.slice A c.V.length k1) ∧ w'.cell? ⟨w.heap.size, 2, none⟩ = some (.slice E c.M.length k3)) : World → Prop) _ := ALL.out _ HQ5.out
      refine hK.out _ _ (fun _ => hHeld) ?_
      clear hK K
      try simp only [Act.put]
      have hx := HX3.out.q HQ5.out
      have HX5 := Lib.hid hx
      have x0 := hx.c0
      have x1 := hx.c1
      have x2 := hx.c2
      have u0 := hx.f0
      have u1 := hx.f1
      have u2 := hx.f2
      clear s0 s1 hx
      refine call_t (i := 11) rfl (by kernel_rfl) (by rfl) (fun K hK => ?_)
      go_simp
      refine hK.out _ _ (fun hz => by cases hz) ?_
      clear hK K
      try simp only [Act.put]
      refine done_t (by kernel_rfl) ?_ _
      go_wp2_with fail
      have hz := HX5.out.all (.slice A5 (c.V.length + 1) c5) (.slice An nn cn) (.slice E c.M.length k3)
      have y0 := hz.c0
      have y1 := hz.c1
      have y2 := hz.c2
      obtain ⟨hRd, hQd⟩ := fin_grow (x := x) (.slice A5 (c.V.length + 1) c5) (.slice An nn cn) (.slice E c.M.length k3) Own5.out (by omega) Hc5.out (by rw [List.nil_append, cellsI_append]; rfl) (own_q Own3.out HQ5.out) Hnn.out Hcn.out (by rw [List.nil_append, cellsP_append]; rfl) HLo.out HE.out Hk3.out (HQ3.out.trans HQ5.out) (Nat.le_succ _)
      refine bodyPost_ret (v := .agg #[.slice A5 (c.V.length + 1) c5, .slice An nn cn, .slice E c.M.length k3]) (by simp [results, Tryz.f260, go_sem, y0, y1, y2]) rfl ⟨_, c5, _, cn, _, k3, ?_, hRd, hQd⟩
      rw [show (growC c x).V.length = c.V.length + 1 by simp [growC], show (growC c x).N.length = nn by rw [Hnn.out]; simp [growC]]
      rfl
  · go_simp
    have hHeld : ((fun w' => w'.cell? ⟨w.heap.size, 0, none⟩ = some (.slice A c.V.length k1) ∧ w'.cell? ⟨w.heap.size, 2, none⟩ = some (.slice E c.M.length k3)) : World → Prop) _ := ALL.out _ ((Q.refl w3).drew.alloc (Obj.cells #[.int .i64 x] 3))
    refine hK.out _ _ (fun _ => hHeld) ?_
    clear hK K
    try simp only [Act.put, List.setIfInBounds_toArray, List.set_cons_zero, List.set_cons_succ]
    refine call_t (i := 0) rfl (by kernel_rfl) (by rfl) (fun K hK => ?_)
    go_simp
    have hHeld : ((fun w' => w'.cell? ⟨w.heap.size, 0, none⟩ = some (.slice A c.V.length k1) ∧ w'.cell? ⟨w.heap.size, 2, none⟩ = some (.slice E c.M.length k3)) : World → Prop) _ := ALL.out _ (((Q.refl w3).drew.alloc (Obj.cells #[.int .i64 x] 3)).alloc (Obj.cells #[] 3))
    refine hK.out _ _ (fun _ => hHeld) ?_
    clear hK K
    try simp only [Act.put, List.setIfInBounds_toArray, List.set_cons_zero, List.set_cons_succ]
    refine call_t (i := 3) rfl (by kernel_rfl) (by rfl) (fun K hK => ?_)
    refine wp_append_src _ (.tmp 13) (.tmp 15) _ rfl w3.heap.size 3 i0 _ 1 8 Tryz.underlying24 Hi.out Hz0.out Hz1.out Hz2.out rfl (by omega) (.slice (some ⟨w3.heap.size + 1, 0, none⟩) 0 0) 0 [] rfl (own_empty (Nat.le_succ _) (heap_two_new w3.drew (Obj.cells #[.int .i64 x] 3) (Obj.cells #[] 3))) A c.V.length k1 (cellsI c.V) rfl (by rw [cellsI_len]; omega) (HR3.out.q (((Q.refl w3).drew.alloc (Obj.cells #[.int .i64 x] 3)).alloc (Obj.cells #[] 3))).v.src (cellsI_one _) (by have := HFw.out.1; unfold maxLen; omega) (by have := HFw.out.1; omega) (by simp <;> omega) ?_
    intro v4 w4 own4 gr4 at4
    have HQ4 : Hid (Q w3 w4) := Lib.hid ((((Q.refl w3).drew.alloc (Obj.cells #[.int .i64 x] 3)).alloc (Obj.cells #[] 3)).grown gr4 (by simp <;> omega) (by simp [Value.ownBlock] <;> omega))
    have hb4 := far_block gr4 (heap_two_old w3.drew (Obj.cells #[.int .i64 x] 3) (Obj.cells #[] 3)) (by simp [Value.ownBlock])
    have own4' := own4
    clear own4 gr4 at4
    have hHeld : ((fun w' => w'.cell? ⟨w.heap.size, 0, none⟩ = some (.slice A c.V.length k1) ∧ w'.cell? ⟨w.heap.size, 2, none⟩ = some (.slice E c.M.length k3)) : World → Prop) _ := ALL.out _ HQ4.out
    refine hK.out _ _ (fun _ => hHeld) ?_
    clear hK K
    try simp only [Act.put, List.setIfInBounds_toArray]
    refine call_t (i := 6) rfl (by kernel_rfl) (by rfl) (fun K hK => ?_)
    refine wp_append_src _ (.tmp 16) (.tmp 18) _ rfl w3.heap.size 3 i0 _ 1 8 Tryz.underlying24 Hi.out Hz0.out Hz1.out Hz2.out rfl (by omega) v4 (0 + c.V.length) ([] ++ cellsI c.V) rfl own4' (some ⟨w3.heap.size, 0, none⟩) 1 1 [.int .i64 x] rfl rfl (src_block (cs := #[.int .i64 x]) hb4) (by simp [Value.oneCell']) (by have := HFw.out.1; unfold maxLen; omega) (by have := HFw.out.1; omega) (HQ4.out.size) ?_
    intro v5 w5 own5 gr5 at5
    have HQ5 : Hid (Q w3 w5) := Lib.hid (HQ4.out.grown gr5 HQ4.out.size (fun b hb => (own4'.lt b hb).1))
    rw [Nat.zero_add] at own5
    obtain ⟨A5, c5, rfl, hc5, -⟩ := own_o own5
    have Own5 := Lib.hid own5
    have Hc5 := Lib.hid hc5
    clear own5 gr5 at5 hc5
    have hHeld : ((fun w' => w'.cell? ⟨w.heap.size, 0, none⟩ = some (.slice A c.V.length k1) ∧ w'.cell? ⟨w.heap.size, 2, none⟩ = some (.slice E c.M.length k3)) : World → Prop) _ := ALL.out _ HQ5.out
    refine hK.out _ _ (fun _ => hHeld) ?_
    clear hK K
    try simp only [Act.put]
    refine call_t (i := 10) rfl (by kernel_rfl) (by rfl) (fun K hK => ?_)
    go_simp
    have hHeld : ((fun w' => w'.cell? ⟨w.heap.size, 0, none⟩ = some (.slice A c.V.length k1) ∧ w'.cell? ⟨w.heap.size, 2, none⟩ = some (.slice E c.M.length k3)) : World → Prop) _ := ALL.out _ HQ5.out
    refine hK.out _ _ (fun _ => hHeld) ?_
    clear hK K
    try simp only [Act.put]
    have hx := HX3.out.q HQ5.out
    have HX5 := Lib.hid hx
    have x0 := hx.c0
    have x1 := hx.c1
    have x2 := hx.c2
    have u0 := hx.f0
    have u1 := hx.f1
    have u2 := hx.f2
    clear s0 s1 hx
    refine call_t (i := 11) rfl (by kernel_rfl) (by rfl) (fun K hK => ?_)
    go_simp
    refine hK.out _ _ (fun hz => by cases hz) ?_
    clear hK K
    try simp only [Act.put]
    refine done_t (by kernel_rfl) ?_ _
    go_wp2_with fail
    have hz := HX5.out.all (.slice A5 (c.V.length + 1) c5) (.slice An nn cn) (.slice E c.M.length k3)
    have y0 := hz.c0
    have y1 := hz.c1
    have y2 := hz.c2
    obtain ⟨hRd, hQd⟩ := fin_grow (x := x) (.slice A5 (c.V.length + 1) c5) (.slice An nn cn) (.slice E c.M.length k3) Own5.out (by omega) Hc5.out (by rw [List.nil_append, cellsI_append]; rfl) (own_q Own3.out HQ5.out) Hnn.out Hcn.out (by rw [List.nil_append, cellsP_append]; rfl) HLo.out HE.out Hk3.out (HQ3.out.trans HQ5.out) (Nat.le_succ _)
    refine bodyPost_ret (v := .agg #[.slice A5 (c.V.length + 1) c5, .slice An nn cn, .slice E c.M.length k3]) (by simp [results, Tryz.f260, go_sem, y0, y1, y2]) rfl ⟨_, c5, _, cn, _, k3, ?_, hRd, hQd⟩
    rw [show (growC c x).V.length = c.V.length + 1 by simp [growC], show (growC c x).N.length = nn by rw [Hnn.out]; simp [growC]]
    rfl
set_option maxRecDepth 100000 in
theorem refAdd5_any (K : Nat → Prop) (c : Cells) (A D E : Option Addr) (k1 k2 k3 : Nat) (w : World) (hc : CR w K c A k1 D k2 E k3) (hKw : ∀ b, K b → b < w.heap.size) (hf : Few c 1000000) :
    Calls Tryz.prog 180 #[.agg #[.slice A c.V.length k1, .slice D c.N.length k2, .slice E c.M.length k3]] w (GrowPost K (growC c (c.V.length : Int)) w) := by
  obtain ⟨W0, hW0, q0, hz0, hB, hX⟩ := boxes w (Value.slice A c.V.length k1) (Value.slice D c.N.length k2) (Value.slice E c.M.length k3) 29
  have HB := Lib.hid hB
  have HX := Lib.hid hX
  have HW := Lib.hid hW0
  have HQ0 := Lib.hid q0
  have HZ := Lib.hid hz0
  have HKw := Lib.hid hKw
  have CG := Lib.hid (refGrow4_any K c (c.V.length : Int) A D E k1 k2 k3 W0 (hc.q q0) hf)
  clear hW0 q0 hz0 hB hX hc hf hKw
  go_enter Tryz.func180, Tryz.ntmps180
  go_upto_region 1 with fail
  rw [← HW.out]
  clear HW
  have c0 := HB.out.c0
  have c1 := HB.out.c1
  have c2 := HB.out.c2
  go_wp2_with (go_at_call 260; refine CG.out.mono ?_; rintro e w1 ⟨A1, l1, D1, l2, E1, l3, rfl, hc1, q1⟩; have HC1 := Lib.hid hc1; have HQ1 := Lib.hid q1; have hx := HX.out.q q1; have x0 := hx.c0; have x1 := hx.c1; have x2 := hx.c2; have u0 := hx.f0; have u1 := hx.f1; have u2 := hx.f2; have HX1 := Lib.hid hx; clear hx c0 c1 c2 hc1 q1)
  have hz := HX1.out.all (.slice A1 (growC c (c.V.length : Int)).V.length l1) (.slice D1 (growC c (c.V.length : Int)).N.length l2) (.slice E1 (growC c (c.V.length : Int)).M.length l3)
  have y0 := hz.c0
  have y1 := hz.c1
  have y2 := hz.c2
  have gr := set3_grown w1 (w.heap.size + 1) (.slice A1 (growC c (c.V.length : Int)).V.length l1) (.slice D1 (growC c (c.V.length : Int)).N.length l2) (.slice E1 (growC c (c.V.length : Int)).M.length l3)
  refine bodyPost_ret (v := .agg #[.slice A1 (growC c (c.V.length : Int)).V.length l1, .slice D1 (growC c (c.V.length : Int)).N.length l2, .slice E1 (growC c (c.V.length : Int)).M.length l3]) (by simp [results, Tryz.f180, go_sem, y0, y1, y2]) rfl ⟨A1, l1, D1, l2, E1, l3, rfl, ?_, grown_q gr (HQ0.out.trans HQ1.out) (Nat.le_succ _)⟩
  exact HC1.out.to (agree_grown (P := fun b => K b ∨ W0.heap.size ≤ b) gr (fun h => by rcases h with h | h; exact absurd (HKw.out _ h) (by omega); have := HZ.out; omega)) (fun b h _ => h.elim .inl (fun h => .inr (by have := HZ.out; omega)))
end Go.Proofs.YtnifmfdlocgefaaGreat.Ig

namespace Go.Proofs.YtnifmfdlocgefaaGreat.Tr
open Go.RowKit Kit

theorem mkB_mono {n n' : Int} (h : n ≤ n') : ∀ {p : Int} {M : List Int}, mkB n p M = true → mkB n' p M = true
  | _, [], _ => rfl
  | p, x :: l, hm => by
    rw [mkB, Bool.and_eq_true, Bool.and_eq_true, decide_eq_true_eq, decide_eq_true_eq] at hm ⊢
    exact ⟨⟨hm.1.1, by omega⟩, mkB_mono h hm.2⟩
theorem right_parts {c : Cells} (h : rightB c = true) : mkB c.N.length 0 c.M = true ∧ (backs c.N c.V).isSome = true := by
  unfold rightB at h; rwa [Bool.and_eq_true] at h
theorem right_mk {c : Cells} (h1 : mkB c.N.length 0 c.M = true) (h2 : (backs c.N c.V).isSome = true) : rightB c = true := by unfold rightB; rw [h1, h2]; rfl
theorem backs_snoc {N : List Note} {x : Note} {V V' : List Int} (h : back1 x V = some V') : backs (N ++ [x]) V = backs N V' := by
  unfold backs
  rw [List.reverse_append]
  show (back1 x V).bind (backR N.reverse) = _
  rw [h]; rfl
theorem back1_set {V : List Int} {a : Nat} (x : Int) (ha : a < V.length) : back1 ((a : Int), V.getD a 0) (V.set a x) = some V := by
  rw [back1_put a _ _ (by rw [List.length_set]; exact ha)]; simp [ha]
theorem right_snoc {c d : Cells} {x : Note} (h : rightB c = true) (hM : d.M = c.M) (hN : d.N = c.N ++ [x]) (hb : back1 x d.V = some c.V) : rightB d = true := by
  obtain ⟨h1, h2⟩ := right_parts h
  refine right_mk ?_ ?_
  · rw [hM, hN]; exact mkB_mono (by simp; omega) h1
  · rw [hN, backs_snoc hb]; exact h2

end Go.Proofs.YtnifmfdlocgefaaGreat.Tr

namespace Go.Proofs.YtnifmfdlocgefaaGreat.Uf
open Kit Tr

/-- the first one of a joined class, and the one that was first of the other part -/
def lo (R V : List Int) (a b : Nat) : Nat := if lessB R (fst V b) (fst V a) = true then fst V b else fst V a
def hi (R V : List Int) (a b : Nat) : Nat := if lessB R (fst V b) (fst V a) = true then fst V a else fst V b
theorem lo_hi_same {R V : List Int} {a b : Nat} (h : fst V a = fst V b) : lo R V a b = fst V a ∧ hi R V a b = fst V a := by
  unfold lo hi
  rw [h, less_self]
  exact ⟨if_neg (by simp), if_neg (by simp)⟩
theorem lo_less {R V : List Int} {a b : Nat} (h : fst V a ≠ fst V b) : lessB R (lo R V a b) (hi R V a b) = true := by
  unfold lo hi
  cases e : lessB R (fst V b) (fst V a) with
  | true => exact e
  | false => exact less_flip (a := (fst V b : Int)) (b := (fst V a : Int)) (by omega) e
theorem lo_or (R V : List Int) (a b : Nat) : lo R V a b = fst V a ∧ hi R V a b = fst V b ∨ lo R V a b = fst V b ∧ hi R V a b = fst V a := by
  unfold lo hi
  cases lessB R (fst V b) (fst V a) with
  | true => exact .inr ⟨rfl, rfl⟩
  | false => exact .inl ⟨rfl, rfl⟩
theorem joinC_eq (R : List Int) (c : Cells) (a b : Nat) : joinC R c a b = if fst c.V a = fst c.V b then c else setC c (hi R c.V a b) (lo R c.V a b : Int) := by
  unfold joinC
  by_cases e : fst c.V a = fst c.V b
  · rw [if_pos e, if_pos e]
  · rw [if_neg e, if_neg e]
    unfold lo hi
    cases lessB R (fst c.V b) (fst c.V a) <;> rfl
structure Joined (R : List Int) (c : Cells) (a b : Nat) : Prop where
  cl : Cl R (joinC R c a b).V
  len : (joinC R c a b).V.length = c.V.length
  fst : ∀ n, n < c.V.length → fst (joinC R c a b).V n = if fst c.V n = hi R c.V a b then lo R c.V a b else fst c.V n
theorem joined {R : List Int} {c : Cells} {a b : Nat} (h : Cl R c.V) (ha : a < c.V.length) (hb : b < c.V.length) : Joined R c a b := by
  obtain ⟨xl, xp, _⟩ := h.fst_in a ha
  obtain ⟨yl, yp, _⟩ := h.fst_in b hb
  by_cases e : fst c.V a = fst c.V b
  · have hj : joinC R c a b = c := by rw [joinC_eq, if_pos e]
    obtain ⟨e1, e2⟩ := lo_hi_same (R := R) e
    refine ⟨by rw [hj]; exact h, by rw [hj], fun n _ => ?_⟩
    rw [hj, e1, e2]
    by_cases k : fst c.V n = fst c.V a
    · rw [if_pos k, k]
    · rw [if_neg k]
  · have hj : joinC R c a b = setC c (hi R c.V a b) (lo R c.V a b : Int) := by rw [joinC_eq, if_neg e]
    have hl := lo_less (R := R) e
    have hL : lo R c.V a b < c.V.length ∧ par c.V (lo R c.V a b) = lo R c.V a b ∧ hi R c.V a b < c.V.length ∧ par c.V (hi R c.V a b) = hi R c.V a b := by
      rcases lo_or R c.V a b with ⟨k1, k2⟩ | ⟨k1, k2⟩
      · rw [k1, k2]; exact ⟨xl, xp, yl, yp⟩
      · rw [k1, k2]; exact ⟨yl, yp, xl, xp⟩
    obtain ⟨c2, f2⟩ := h.join hL.1 hL.2.2.1 hL.2.1 hL.2.2.2 hl
    exact ⟨by rw [hj]; exact c2, by rw [hj]; exact List.length_set, fun n hn => by rw [hj]; exact f2 n hn⟩
theorem hi_in {R : List Int} {c : Cells} {a b : Nat} (h : Cl R c.V) (ha : a < c.V.length) (hb : b < c.V.length) : hi R c.V a b < c.V.length := by
  rcases lo_or R c.V a b with ⟨_, k2⟩ | ⟨_, k2⟩
  · rw [k2]; exact (h.fst_in b hb).1
  · rw [k2]; exact (h.fst_in a ha).1
theorem right_set {c : Cells} {i : Nat} (x : Int) (h : rightB c = true) (hi : i < c.V.length) : rightB (setC c i x) = true := right_snoc (x := ((i : Int), c.V.getD i 0)) h rfl rfl (back1_set x hi)
theorem right_join {R : List Int} {c : Cells} {a b : Nat} (hR : rightB c = true) (h : Cl R c.V) (ha : a < c.V.length) (hb : b < c.V.length) : rightB (joinC R c a b) = true := by
  rw [joinC_eq]
  by_cases e : fst c.V a = fst c.V b
  · rw [if_pos e]; exact hR
  · rw [if_neg e]; exact right_set _ hR (hi_in h ha hb)
theorem few_join {R : List Int} {c : Cells} {m k : Nat} (a b : Nat) (h : Few c m) (hm : m + 1 ≤ k) : Few (joinC R c a b) k := by
  rw [joinC_eq]
  by_cases e : fst c.V a = fst c.V b
  · rw [if_pos e]; exact few_more h (by omega)
  · rw [if_neg e]; exact few_set _ _ h hm
/-- what a join says of first ones -/
theorem Joined.a_b {R : List Int} {c : Cells} {a b : Nat} (h : Joined R c a b) (ha : a < c.V.length) (hb : b < c.V.length) : Uf.fst (joinC R c a b).V a = lo R c.V a b ∧ Uf.fst (joinC R c a b).V b = lo R c.V a b := by
  rw [h.fst a ha, h.fst b hb]
  rcases lo_or R c.V a b with ⟨k1, k2⟩ | ⟨k1, k2⟩
  · rw [k1, k2, if_pos rfl]
    by_cases e : Uf.fst c.V a = Uf.fst c.V b
    · rw [if_pos e]; exact ⟨rfl, rfl⟩
    · rw [if_neg e]; exact ⟨rfl, rfl⟩
  · rw [k1, k2, if_pos rfl]
    by_cases e : Uf.fst c.V b = Uf.fst c.V a
    · rw [if_pos e]; exact ⟨rfl, rfl⟩
    · rw [if_neg e]; exact ⟨rfl, rfl⟩
theorem Joined.mine {R : List Int} {c : Cells} {a b n : Nat} (h : Joined R c a b) (hn : n < c.V.length) (hm : Uf.fst c.V n = Uf.fst c.V a ∨ Uf.fst c.V n = Uf.fst c.V b) : Uf.fst (joinC R c a b).V n = lo R c.V a b := by
  rw [h.fst n hn]
  rcases lo_or R c.V a b with ⟨k1, k2⟩ | ⟨k1, k2⟩
  · rw [k1, k2]
    by_cases e : Uf.fst c.V n = Uf.fst c.V b
    · rw [if_pos e]
    · rw [if_neg e]; exact hm.resolve_right e
  · rw [k1, k2]
    by_cases e : Uf.fst c.V n = Uf.fst c.V a
    · rw [if_pos e]
    · rw [if_neg e]; exact hm.resolve_left e
theorem Joined.other {R : List Int} {c : Cells} {a b n : Nat} (h : Joined R c a b) (hn : n < c.V.length) (hm : ¬ (Uf.fst c.V n = Uf.fst c.V a ∨ Uf.fst c.V n = Uf.fst c.V b)) : Uf.fst (joinC R c a b).V n = Uf.fst c.V n ∧ Uf.fst c.V n ≠ lo R c.V a b := by
  rw [h.fst n hn]
  rcases lo_or R c.V a b with ⟨k1, k2⟩ | ⟨k1, k2⟩
  · rw [k1, k2, if_neg (fun e => hm (.inr e))]; exact ⟨rfl, fun e => hm (.inl e)⟩
  · rw [k1, k2, if_neg (fun e => hm (.inl e))]; exact ⟨rfl, fun e => hm (.inr e)⟩
end Go.Proofs.YtnifmfdlocgefaaGreat.Uf

namespace Go.Proofs.YtnifmfdlocgefaaGreat.Ig
open Go.RowKit Kit Tr Uf

/-- cells that can be read: in the call's own memory, or where they were -/
def CPost (K : Nat → Prop) (c : Cells) (w : World) (e : Ending) (w' : World) : Prop :=
  ∃ A k1 D k2 E k3, e = .returned (.agg #[.slice A c.V.length k1, .slice D c.N.length k2, .slice E c.M.length k3]) ∧ CR w' (fun b => K b ∨ w.heap.size ≤ b) c A k1 D k2 E k3 ∧ Q w w'

set_option maxRecDepth 100000 in
set_option maxHeartbeats 4000000 in
theorem refJoin5_any (K : Nat → Prop) (R : List Int) (c : Cells) (a b : Nat) (A D E F : Option Addr) (k1 k2 k3 nr cr : Nat) (w : World) (hnr : nr = R.length) (hc : CR w K c A k1 D k2 E k3) (hKw : ∀ b, K b → b < w.heap.size) (hR : Tr.Rds w w.heap.size F (cellsI R)) (hf : Few c 1000000) (hC : Cl R c.V) (ha : a < c.V.length) (hb : b < c.V.length) :
    Calls Tryz.prog 132 #[.agg #[.slice A c.V.length k1, .slice D c.N.length k2, .slice E c.M.length k3], .slice F nr cr, .int .i64 (a : Int), .int .i64 (b : Int)] w (CPost K (joinC R c a b) w) := by
  subst hnr
  have h := hc.rd
  have Hc := Lib.hid hc
  have HKw := Lib.hid hKw
  obtain ⟨W0, hW0, q0, hz0, hB, hX⟩ := boxes w (Value.slice A c.V.length k1) (Value.slice D c.N.length k2) (Value.slice E c.M.length k3) 29
  have HB := Lib.hid hB
  have HX := Lib.hid hX
  have HZ := Lib.hid hz0
  have HW := Lib.hid hW0
  have HQ0 := Lib.hid q0
  obtain ⟨x, hx⟩ : ∃ x, x = fst c.V a := ⟨_, rfl⟩
  obtain ⟨y, hy⟩ : ∃ y, y = fst c.V b := ⟨_, rfl⟩
  have hxl : x < c.V.length := by rw [hx]; exact (hC.fst_in a ha).1
  have hyl : y < c.V.length := by rw [hy]; exact (hC.fst_in b hb).1
  have CA : Hid (∀ U, Q W0 U → Calls Tryz.prog 27 #[.agg #[.slice A c.V.length k1, .slice D c.N.length k2, .slice E c.M.length k3], .int .i64 (a : Int)] U fun e w' => e = .returned (.int .i64 (x : Int)) ∧ Q U w') := fun U q => by
    have := refFind_any R c.V a A _ k1 (.slice D c.N.length k2) (.slice E c.M.length k3) U rfl (h.q (q0.trans q)).v hC ha hf.1
    rwa [← hx] at this
  have CB : Hid (∀ U, Q W0 U → Calls Tryz.prog 27 #[.agg #[.slice A c.V.length k1, .slice D c.N.length k2, .slice E c.M.length k3], .int .i64 (b : Int)] U fun e w' => e = .returned (.int .i64 (y : Int)) ∧ Q U w') := fun U q => by
    have := refFind_any R c.V b A _ k1 (.slice D c.N.length k2) (.slice E c.M.length k3) U rfl (h.q (q0.trans q)).v hC hb hf.1
    rwa [← hy] at this
  have CL : Hid (∀ U, Q W0 U → Calls Tryz.prog 110 #[.slice F R.length cr, .int .i64 (x : Int), .int .i64 (y : Int)] U fun e w' => e = .returned (.bool (lessB R x y)) ∧ Q U w') := fun U q => (refLess_any R F _ cr x y U rfl (hR.q (q0.trans q))).mono (by rintro e w' ⟨rfl, rfl⟩; exact ⟨rfl, Q.refl _⟩)
  have ALL : Hid (∀ U, Q W0 U → U.cell? ⟨w.heap.size, 0, none⟩ = some (.slice A c.V.length k1) ∧ U.cell? ⟨w.heap.size, 1, none⟩ = some (.slice D c.N.length k2) ∧ U.cell? ⟨w.heap.size, 2, none⟩ = some (.slice E c.M.length k3)) := fun U q => ⟨(HB.out.q q).c0, (HB.out.q q).c1, (HB.out.q q).c2⟩
  by_cases hne : x = y
  · have hj : joinC R c a b = c := by rw [joinC_eq, if_pos (by rw [← hx, ← hy]; exact hne)]
    have HJ := Lib.hid hj
    subst hne
    clear h hc hKw CL hR hf hC ha hb hx hy hxl hyl hB hX hz0 hW0 q0 hj
    go_enter Tryz.func132, Tryz.ntmps132
    go_upto_region 1 with fail
    rw [← HW.out]
    clear HW
    obtain ⟨c0, c1, c2⟩ := ALL.out W0 (Q.refl _)
    go_wp2_with (first
      | (go_at_call 27; (with_reducible refine (CA.out W0 (Q.refl _)).mono ?_); rintro e w2 ⟨rfl, q1⟩; have HQ2 := Lib.hid (q1); clear q1; clear c0 c1 c2; obtain ⟨c0, c1, c2⟩ := ALL.out w2 HQ2.out)
      | (go_at_call 27; (with_reducible refine (CB.out w2 HQ2.out).mono ?_); rintro e w3 ⟨rfl, q2⟩; have HQ3 := Lib.hid (HQ2.out.trans q2); clear q2; have hx3 := HX.out.q HQ3.out; have HX3 := Lib.hid hx3; have x0 := hx3.c0; have x1 := hx3.c1; have x2 := hx3.c2; have u0 := hx3.f0; have u1 := hx3.f1; have u2 := hx3.f2; clear hx3 c0 c1 c2; obtain ⟨c0, c1, c2⟩ := ALL.out w3 HQ3.out)
      | fail)
    have hz := HX3.out.all (.slice A c.V.length k1) (.slice D c.N.length k2) (.slice E c.M.length k3)
    have y0 := hz.c0
    have y1 := hz.c1
    have y2 := hz.c2
    have gr := set3_grown w3 (w.heap.size + 1) (.slice A c.V.length k1) (.slice D c.N.length k2) (.slice E c.M.length k3)
    rw [HJ.out]
    exact bodyPost_ret (v := .agg #[.slice A c.V.length k1, .slice D c.N.length k2, .slice E c.M.length k3]) (by simp [results, Tryz.f132, go_sem, y0, y1, y2]) rfl ⟨A, k1, D, k2, E, k3, rfl, (Hc.out.q (grown_q gr (HQ0.out.trans HQ3.out) (Nat.le_succ _))).to (agree_q (Q.refl _)) (fun b hb _ => .inl hb), grown_q gr (HQ0.out.trans HQ3.out) (Nat.le_succ _)⟩
  · have e0 : ((x : Int) == (y : Int)) = false := beq_eq_false_iff_ne.2 (by omega)
    have e1 : (x == y) = false := beq_eq_false_iff_ne.2 hne
    cases hl : lessB R x y
    · have hj : joinC R c a b = setC c x (y : Int) := by
        rw [joinC_eq, if_neg (by rw [← hx, ← hy]; exact hne)]
        have := less_flip (R := R) (a := (x : Int)) (b := (y : Int)) (by omega) hl
        unfold hi lo
        rw [← hx, ← hy, if_pos this, if_pos this]
      rw [hl] at CL
      clear hl
      have CS : Hid (∀ U, Q W0 U → Calls Tryz.prog 194 #[.agg #[.slice A c.V.length k1, .slice D c.N.length k2, .slice E c.M.length k3], .int .i64 (x : Int), .int .i64 (y : Int)] U (SetPost K (setC c x (y : Int)) U)) := fun U q => refSet4_any K c x (y : Int) A D E k1 k2 k3 U hxl (hc.q (q0.trans q)) hf
      have HJ := Lib.hid hj
      clear h hc hKw hR hf hC ha hb hx hy hxl hyl hB hX hz0 hW0 q0 hj hne
      go_enter Tryz.func132, Tryz.ntmps132
      go_upto_region 1 with fail
      rw [← HW.out]
      clear HW
      obtain ⟨c0, c1, c2⟩ := ALL.out W0 (Q.refl _)
      go_wp2_with (first
      | (go_at_call 27; (with_reducible refine (CA.out W0 (Q.refl _)).mono ?_); rintro e w2 ⟨rfl, q1⟩; have HQ2 := Lib.hid (q1); clear q1; clear c0 c1 c2; obtain ⟨c0, c1, c2⟩ := ALL.out w2 HQ2.out)
      | (go_at_call 27; (with_reducible refine (CB.out w2 HQ2.out).mono ?_); rintro e w3 ⟨rfl, q2⟩; have HQ3 := Lib.hid (HQ2.out.trans q2); clear q2; clear c0 c1 c2; obtain ⟨c0, c1, c2⟩ := ALL.out w3 HQ3.out)
      | (go_at_call 110; (with_reducible refine (CL.out w3 HQ3.out).mono ?_); rintro e w4 ⟨rfl, q3⟩; have HQ4 := Lib.hid (HQ3.out.trans q3); clear q3; clear c0 c1 c2; obtain ⟨c0, c1, c2⟩ := ALL.out w4 HQ4.out)
      | (go_at_call 194; go_loud ((with_reducible refine (CS.out w4 HQ4.out).mono ?_); rintro e w5 ⟨A5, l1, D5, l2, E5, l3, rfl, hr5, q4⟩; have HR5 := Lib.hid hr5; have HS4 : Hid (w.heap.size + 2 ≤ w4.heap.size) := (by have h1 := HZ.out; have h2 := HQ4.out.size; unfold Hid; omega); have HQ5 := Lib.hid (HQ4.out.trans q4); have hx5 := HX.out.q HQ5.out; have HX5 := Lib.hid hx5; have x0 := hx5.c0; have x1 := hx5.c1; have x2 := hx5.c2; have u0 := hx5.f0; have u1 := hx5.f1; have u2 := hx5.f2; have hlt5 := hx5.lt; have hlt6 : w.heap.size < w5.heap.size := (by omega); clear c0 c1 c2 hr5 q4 hx5))
      | fail)
      have gr := set3_grown w5 (w.heap.size + 1) (.slice A5 (setC c x (y : Int)).V.length l1) (.slice D5 (setC c x (y : Int)).N.length l2) (.slice E5 (setC c x (y : Int)).M.length l3)
      have qa := (Q.refl (((w5.setCell ⟨w.heap.size + 1, 0, none⟩ (.slice A5 (setC c x (y : Int)).V.length l1)).setCell ⟨w.heap.size + 1, 1, none⟩ (.slice D5 (setC c x (y : Int)).N.length l2)).setCell ⟨w.heap.size + 1, 2, none⟩ (.slice E5 (setC c x (y : Int)).M.length l3))).alloc (Obj.cells #[.slice A5 (setC c x (y : Int)).V.length l1, .slice D5 (setC c x (y : Int)).N.length l2, .slice E5 (setC c x (y : Int)).M.length l3] 29)
      have hz := (HX5.out.all (.slice A5 (setC c x (y : Int)).V.length l1) (.slice D5 (setC c x (y : Int)).N.length l2) (.slice E5 (setC c x (y : Int)).M.length l3)).q qa
      have hs4 := HS4.out
      have y0 := hz.c0
      have y1 := hz.c1
      have y2 := hz.c2
      rw [HJ.out]
      exact bodyPost_ret (v := .agg #[.slice A5 (setC c x (y : Int)).V.length l1, .slice D5 (setC c x (y : Int)).N.length l2, .slice E5 (setC c x (y : Int)).M.length l3]) (by simp [results, Tryz.f132, go_sem, y0, y1, y2]) rfl ⟨A5, l1, D5, l2, E5, l3, rfl, (HR5.out.to (agree_grown (P := fun b => K b ∨ w4.heap.size ≤ b) gr (fun hk => hk.elim (fun h => by have := HKw.out _ h; omega) (fun h => by omega))) (K' := fun b => K b ∨ w4.heap.size ≤ b) (fun _ h _ => h)).to (agree_q (P := fun b => K b ∨ w4.heap.size ≤ b) qa) (fun b hb _ => hb.elim .inl (fun h => .inr (by omega))), (grown_q gr (HQ0.out.trans HQ5.out) (Nat.le_succ _)).trans qa⟩
    · have hj : joinC R c a b = setC c y (x : Int) := by
        rw [joinC_eq, if_neg (by rw [← hx, ← hy]; exact hne)]
        have := less_not (R := R) hl
        unfold hi lo
        rw [← hx, ← hy, this]
        simp
      rw [hl] at CL
      clear hl
      have CS : Hid (∀ U, Q W0 U → Calls Tryz.prog 194 #[.agg #[.slice A c.V.length k1, .slice D c.N.length k2, .slice E c.M.length k3], .int .i64 (y : Int), .int .i64 (x : Int)] U (SetPost K (setC c y (x : Int)) U)) := fun U q => refSet4_any K c y (x : Int) A D E k1 k2 k3 U hyl (hc.q (q0.trans q)) hf
      have HJ := Lib.hid hj
      clear h hc hKw hR hf hC ha hb hx hy hxl hyl hB hX hz0 hW0 q0 hj hne
      go_enter Tryz.func132, Tryz.ntmps132
      go_upto_region 1 with fail
      rw [← HW.out]
      clear HW
      obtain ⟨c0, c1, c2⟩ := ALL.out W0 (Q.refl _)
      go_wp2_with (first
      | (go_at_call 27; (with_reducible refine (CA.out W0 (Q.refl _)).mono ?_); rintro e w2 ⟨rfl, q1⟩; have HQ2 := Lib.hid (q1); clear q1; clear c0 c1 c2; obtain ⟨c0, c1, c2⟩ := ALL.out w2 HQ2.out)
      | (go_at_call 27; (with_reducible refine (CB.out w2 HQ2.out).mono ?_); rintro e w3 ⟨rfl, q2⟩; have HQ3 := Lib.hid (HQ2.out.trans q2); clear q2; clear c0 c1 c2; obtain ⟨c0, c1, c2⟩ := ALL.out w3 HQ3.out)
      | (go_at_call 110; (with_reducible refine (CL.out w3 HQ3.out).mono ?_); rintro e w4 ⟨rfl, q3⟩; have HQ4 := Lib.hid (HQ3.out.trans q3); clear q3; clear c0 c1 c2; obtain ⟨c0, c1, c2⟩ := ALL.out w4 HQ4.out)
      | (go_at_call 194; go_loud ((with_reducible refine (CS.out w4 HQ4.out).mono ?_); rintro e w5 ⟨A5, l1, D5, l2, E5, l3, rfl, hr5, q4⟩; have HR5 := Lib.hid hr5; have HS4 : Hid (w.heap.size + 2 ≤ w4.heap.size) := (by have h1 := HZ.out; have h2 := HQ4.out.size; unfold Hid; omega); have HQ5 := Lib.hid (HQ4.out.trans q4); have hx5 := HX.out.q HQ5.out; have HX5 := Lib.hid hx5; have x0 := hx5.c0; have x1 := hx5.c1; have x2 := hx5.c2; have u0 := hx5.f0; have u1 := hx5.f1; have u2 := hx5.f2; have hlt5 := hx5.lt; have hlt6 : w.heap.size < w5.heap.size := (by omega); clear c0 c1 c2 hr5 q4 hx5))
      | fail)
      have gr := set3_grown w5 (w.heap.size + 1) (.slice A5 (setC c y (x : Int)).V.length l1) (.slice D5 (setC c y (x : Int)).N.length l2) (.slice E5 (setC c y (x : Int)).M.length l3)
      have qa := (Q.refl (((w5.setCell ⟨w.heap.size + 1, 0, none⟩ (.slice A5 (setC c y (x : Int)).V.length l1)).setCell ⟨w.heap.size + 1, 1, none⟩ (.slice D5 (setC c y (x : Int)).N.length l2)).setCell ⟨w.heap.size + 1, 2, none⟩ (.slice E5 (setC c y (x : Int)).M.length l3))).alloc (Obj.cells #[.slice A5 (setC c y (x : Int)).V.length l1, .slice D5 (setC c y (x : Int)).N.length l2, .slice E5 (setC c y (x : Int)).M.length l3] 29)
      have hz := (HX5.out.all (.slice A5 (setC c y (x : Int)).V.length l1) (.slice D5 (setC c y (x : Int)).N.length l2) (.slice E5 (setC c y (x : Int)).M.length l3)).q qa
      have hs4 := HS4.out
      have y0 := hz.c0
      have y1 := hz.c1
      have y2 := hz.c2
      rw [HJ.out]
      exact bodyPost_ret (v := .agg #[.slice A5 (setC c y (x : Int)).V.length l1, .slice D5 (setC c y (x : Int)).N.length l2, .slice E5 (setC c y (x : Int)).M.length l3]) (by simp [results, Tryz.f132, go_sem, y0, y1, y2]) rfl ⟨A5, l1, D5, l2, E5, l3, rfl, (HR5.out.to (agree_grown (P := fun b => K b ∨ w4.heap.size ≤ b) gr (fun hk => hk.elim (fun h => by have := HKw.out _ h; omega) (fun h => by omega))) (K' := fun b => K b ∨ w4.heap.size ≤ b) (fun _ h _ => h)).to (agree_q (P := fun b => K b ∨ w4.heap.size ≤ b) qa) (fun b hb _ => hb.elim .inl (fun h => .inr (by omega))), (grown_q gr (HQ0.out.trans HQ5.out) (Nat.le_succ _)).trans qa⟩
end Go.Proofs.YtnifmfdlocgefaaGreat.Ig

namespace Go.Proofs.YtnifmfdlocgefaaGreat.Ig
open Go.RowKit Kit Tr Uf
open Go.Proofs.YtnifmfdlocgefaaGreat.Hs (Keys Ints KeysP IntsP)
set_option maxRecDepth 100000 in
set_option maxHeartbeats 2000000 in
theorem with12P (K : Nat → Prop) (A S : Option Addr) (n c m d : Nat) (l : List (List Int)) (row : List Int) (k : Nat) (w : World) (hn : n = l.length) (hm : m = row.length) (hk : k < l.length) (hl : l.length ≤ 1000000) (hd : m ≤ d) (hr : KeysP w K A l) (hI : IntsP w K S row) :
    Calls Tryz.prog 118 #[.slice A n c, .int .i64 (k : Int), .slice S m d] w fun e w' => ∃ g cp, e = .returned (.slice (some ⟨g, 0, none⟩) l.length cp) ∧ l.length ≤ cp ∧ KeysP w' (fun b => K b ∨ w.heap.size ≤ b) (some ⟨g, 0, none⟩) (l.set k row) ∧ Q w w' := by
  subst hn hm
  obtain ⟨V, hV, sV, vV⟩ := hr.vals
  have H1 := Lib.hid (Hs.vals_one (w := w) (B := w.heap.size) hV (fun i k hi => by obtain ⟨a, c, h1, h2, h3⟩ := vV i k hi; exact ⟨a, c, h1, h2, h3.ints⟩))
  have HVl := Lib.hid hV
  have Hsrc : Hid (Src (w.alloc (Obj.cells #[] 24)) A V) := (sV.keep ((Q.refl w).alloc (Obj.cells #[] 24))).src
  have Ho := Lib.hid (own_empty (base := w.heap.size) (e := 24) (size := 1) (Nat.le_refl _) (heap_alloc_new w (Obj.cells #[] 24)))
  have HvV : Hid (∀ (i : Nat) (y : List Int), (l.set k row)[i]? = some y → ∃ a c, y.length ≤ c ∧ (V.set k (.slice S row.length d))[i]? = some (Value.slice a y.length c) ∧ IntsP w K a y) := fun i y hy => by
    by_cases e : k = i
    · subst e
      rw [List.getElem?_set_self hk] at hy
      injection hy with hy
      subst hy
      exact ⟨S, d, hd, by rw [List.getElem?_set_self (by omega)], hI⟩
    · rw [List.getElem?_set_ne e] at hy
      obtain ⟨a, c, h1, h2, h3⟩ := vV i y hy
      exact ⟨a, c, h1, by rw [List.getElem?_set_ne e]; exact h2, h3⟩
  obtain ⟨i0, hi, hz0, hz1, hz2⟩ := info_parts Hs.sliceInfo
  have Hi := Lib.hid hi
  have Hz0 := Lib.hid hz0
  have Hz1 := Lib.hid hz1
  have Hz2 := Lib.hid hz2
  have Hk := Lib.hid hk
  have j0 : (0 : Int) ≤ (k : Int) := Int.natCast_nonneg _
  have j1 : (k : Int) < (l.length : Int) := by omega
  clear hi hz0 hz1 hz2 hV sV vV hr hI
  go_enter Tryz.func118, Tryz.ntmps118
  go_upto_region 2 with (at_builtin; refine wpList_append_src _ rfl (.tmp 8) (.tmp 9) _ rfl w.heap.size 24 i0 _ 1 24 Tryz.underlying23 Hi.out Hz0.out Hz1.out Hz2.out rfl (by omega) (.slice (some ⟨w.heap.size, 0, none⟩) 0 0) 0 [] rfl Ho.out A l.length c V rfl (by rw [HVl.out]; omega) Hsrc.out H1.out (by unfold maxLen; omega) (by omega) (by simp) ?_; intro v2 w2 own2 gr2 _; have HO := Lib.hid own2; have HG := Lib.hid gr2; clear own2 gr2)
  have b2 : Q w w2 := ((Q.refl w).alloc (Obj.cells #[] 24)).grown HG.out (by simp) (by simp [Value.ownBlock])
  have own3 := HO.out
  rw [Nat.zero_add, List.nil_append] at own3
  obtain ⟨g, cap, hv3, hgb⟩ := own3.form (by omega)
  have hcap : l.length ≤ cap := by
    rw [hv3] at own3
    rcases own3.2 with ⟨e0, _⟩ | ⟨G, cp, cur, e1, _, _, hc, _⟩
    · cases e0
    · injection e1 with _ _ e3
      omega
  rw [hv3] at own3
  subst hv3
  have hx : k < V.length := by rw [HVl.out]; exact hk
  have hO := Tr.OwnC.of_row own3
  obtain ⟨c0, f0⟩ := hO.2 k V[k] (List.getElem?_eq_getElem hx)
  have hgl := (own3.lt g rfl)
  have q3 : Q w (w2.setCell ⟨g, k, none⟩ (.slice S row.length d)) := b2.setCell (p := ⟨g, k, none⟩) hgl.1 _
  have HK : Hid (KeysP (w2.setCell ⟨g, k, none⟩ (.slice S row.length d)) (fun b => K b ∨ w.heap.size ≤ b) (some ⟨g, 0, none⟩) (l.set k row)) := fun _ => by
    have hS := hO.set hx (.slice S row.length d)
    refine ⟨_, rfl, .inr hgl.1, hS.1, fun i y hy => ?_⟩
    obtain ⟨a, c, h1, h2, h3⟩ := HvV.out i y hy
    refine ⟨a, c, h1, ?_, h3.toP (agree_q (P := K) q3).1 (agree_q q3).2 (fun b hb _ => .inl hb)⟩
    have := (hS.2 i _ h2).1
    rw [Tr.add_zero_head]
    exact this
  generalize V[k] = v0 at *
  have HQ3 := Lib.hid q3
  have Hcap := Lib.hid hcap
  clear HO HG b2 hgb hcap hO hx own3 hgl q3 Hsrc HvV HVl H1 Ho
  go_wp2_with fail
  go_ret
  exact ⟨g, cap, rfl, Hcap.out, HK.out, HQ3.out⟩
end Go.Proofs.YtnifmfdlocgefaaGreat.Ig

namespace Go.Proofs.YtnifmfdlocgefaaGreat.Ig
open Go.RowKit Kit Tr Uf
open Go.Proofs.YtnifmfdlocgefaaGreat.Hs (Keys Ints BoxT KeysP IntsP)
theorem nils_one (m : Nat) : ∀ u ∈ List.replicate m (Value.slice none 0 0), u.oneCell' = true := fun u hu => by
  rw [List.eq_of_mem_replicate hu]; rfl
def K1 (B O gs : Nat) (b : Nat) : Prop := b ≠ gs ∧ b ≠ O ∧ b ≠ B + 1 ∧ B ≤ b
def K2 (B O : Nat) (b : Nat) : Prop := b ≠ O ∧ b ≠ B + 1 ∧ B ≤ b
/-- More, in the midst: the boxes, the copy, the empty rows -/
structure MoreS (w W : World) (R : List Int) (c : Cells) (P T : List (List Int)) (m : Nat) (F A D E Pa Ta : Option Addr) (cr k1 k2 k3 kp kt g0 g1 g2 g3 gp ep gs es O M : Nat) : Prop where
  box : Box6 W w.heap.size (.slice F R.length cr) (.slice A c.V.length k1) (.slice D c.N.length k2) (.slice E c.M.length k3) (.slice Pa P.length kp) (.slice Ta T.length kt)
  res : BoxW W (w.heap.size + 1) (.slice none 0 0) (.slice none 0 0) (.slice none 0 0) (.slice none 0 0) (.slice none 0 0) (.slice none 0 0)
  out : BoxW W O (.slice (some ⟨g0, 0, none⟩) R.length R.length) (.slice (some ⟨g1, 0, none⟩) c.V.length c.V.length) (.slice (some ⟨g2, 0, none⟩) c.N.length c.N.length) (.slice (some ⟨g3, 0, none⟩) c.M.length c.M.length) (.slice (some ⟨gp, 0, none⟩) P.length P.length) (.slice (some ⟨gs, 0, none⟩) T.length T.length)
  r : OwnC W g0 (cellsI R)
  tp : Tab W gp ep P
  tt : Tab W gs es T
  nil : OwnC W M (List.replicate m (.slice none 0 0))
  ord : w.heap.size + 2 ≤ g0 ∧ g0 < gp ∧ ep ≤ gs ∧ es ≤ O ∧ O < M
  q : Q w W
section
variable {w W : World} {R : List Int} {c : Cells} {P T : List (List Int)} {m : Nat} {F A D E Pa Ta : Option Addr} {cr k1 k2 k3 kp kt g0 g1 g2 g3 gp ep gs es O M : Nat} 
theorem MoreS.held (h : MoreS w W R c P T m F A D E Pa Ta cr k1 k2 k3 kp kt g0 g1 g2 g3 gp ep gs es O M) : W.cell? ⟨w.heap.size, 1, none⟩ = some (.slice A c.V.length k1) ∧ W.cell? ⟨w.heap.size, 2, none⟩ = some (.slice D c.N.length k2) ∧ W.cell? ⟨w.heap.size, 3, none⟩ = some (.slice E c.M.length k3) ∧ W.cell? ⟨O, 4, none⟩ = some (.slice (some ⟨gp, 0, none⟩) P.length P.length) ∧ W.cell? ⟨O, 5, none⟩ = some (.slice (some ⟨gs, 0, none⟩) T.length T.length) :=
  ⟨h.box.c1, h.box.c2, h.box.c3, h.out.c.c4, h.out.c.c5⟩
theorem MoreS.next {W' : World} (h : MoreS w W R c P T m F A D E Pa Ta cr k1 k2 k3 kp kt g0 g1 g2 g3 gp ep gs es O M) (q : Q W W') : MoreS w W' R c P T m F A D E Pa Ta cr k1 k2 k3 kp kt g0 g1 g2 g3 gp ep gs es O M :=
  ⟨h.box.q q, h.res.q q, h.out.q q, h.r.q q, h.tp.q q, h.tt.q q, h.nil.q q, h.ord, h.q.trans q⟩
theorem Box6.grown {W W' : World} {B g : Nat} {a b c d e f : Value} (h : Box6 W B a b c d e f) (hg : W.grownBy W' (some g)) (hne : g ≠ B) : Box6 W' B a b c d e f := by
  have hb : W'.heap[B]? = W.heap[B]? := hg.block B h.lt (fun e => by injection e with e; exact hne e.symm)
  have hc : ∀ i, W'.cell? ⟨B, i, none⟩ = W.cell? ⟨B, i, none⟩ := fun i => World.cell?_of_block (a := ⟨B, i, none⟩) hb
  exact ⟨(hc 0).trans h.c0, (hc 1).trans h.c1, (hc 2).trans h.c2, (hc 3).trans h.c3, (hc 4).trans h.c4, (hc 5).trans h.c5, Nat.lt_of_lt_of_le h.lt hg.size⟩
theorem BoxW.set5 {W : World} {B : Nat} {a b c d e f : Value} (h : BoxW W B a b c d e f) (y z u v t : Value) : BoxW (((((W.setCell ⟨B, 1, none⟩ y).setCell ⟨B, 2, none⟩ z).setCell ⟨B, 3, none⟩ u).setCell ⟨B, 4, none⟩ v).setCell ⟨B, 5, none⟩ t) B a y z u v t :=
  BoxW.own.2 (((((((BoxW.own.1 h).set (s := 1) (by simp) y).set (s := 2) (by simp) z).set (s := 3) (by simp) u).set (s := 4) (by simp) v).set (s := 5) (by simp) t))
theorem set5_grown (W : World) (B : Nat) (b c d e f : Value) : W.grownBy (((((W.setCell ⟨B, 1, none⟩ b).setCell ⟨B, 2, none⟩ c).setCell ⟨B, 3, none⟩ d).setCell ⟨B, 4, none⟩ e).setCell ⟨B, 5, none⟩ f) (some B) :=
  grown_trans (grown_trans (grown_trans (grown_trans (setCell_grown _ _ _ _) (setCell_grown _ _ _ _)) (setCell_grown _ _ _ _)) (setCell_grown _ _ _ _)) (setCell_grown _ _ _ _)
theorem MoreS.gpO (h : MoreS w W R c P T m F A D E Pa Ta cr k1 k2 k3 kp kt g0 g1 g2 g3 gp ep gs es O M) : gp < O ∧ gs < O ∧ O < W.heap.size := by
  have := h.ord
  have := h.tp.lt
  have := h.tt.lt
  have := h.out.c.lt
  omega
theorem MoreS.src (h : MoreS w W R c P T m F A D E Pa Ta cr k1 k2 k3 kp kt g0 g1 g2 g3 gp ep gs es O M) : Src W (some ⟨M, 0, none⟩) (List.replicate m (.slice none 0 0)) := OwnC.src h.nil
theorem MoreS.gpl (h : MoreS w W R c P T m F A D E Pa Ta cr k1 k2 k3 kp kt g0 g1 g2 g3 gp ep gs es O M) : gp ≤ W.heap.size := by have := h.gpO; omega
theorem MoreS.gsl (h : MoreS w W R c P T m F A D E Pa Ta cr k1 k2 k3 kp kt g0 g1 g2 g3 gp ep gs es O M) : gs ≤ W.heap.size := by have := h.gpO; omega
theorem MoreS.kA (h : MoreS w W R c P T m F A D E Pa Ta cr k1 k2 k3 kp kt g0 g1 g2 g3 gp ep gs es O M) : ∀ b, gp ≤ b ∧ b < ep ∨ b = W.heap.size → K1 w.heap.size O gs b := fun b hb => by
  have := h.ord
  have := h.gpO
  have := h.tt.lt
  exact ⟨by omega, by omega, by omega, by omega⟩
theorem MoreS.kB (h : MoreS w W R c P T m F A D E Pa Ta cr k1 k2 k3 kp kt g0 g1 g2 g3 gp ep gs es O M) : ∀ b, gs ≤ b ∧ b < es ∨ b = W.heap.size → K2 w.heap.size O b := fun b hb => by
  have := h.ord
  have := h.gpO
  have := h.tp.lt
  exact ⟨by omega, by omega, by omega⟩
/-- what was laid behind Pre: Pre's own table counts no more -/
structure MoreT (w W : World) (R : List Int) (c : Cells) (P T : List (List Int)) (m : Nat) (F A D E Pa Ta : Option Addr) (cr k1 k2 k3 kp kt g0 g1 g2 g3 gp ep gs es O M : Nat) : Prop where
  box : Box6 W w.heap.size (.slice F R.length cr) (.slice A c.V.length k1) (.slice D c.N.length k2) (.slice E c.M.length k3) (.slice Pa P.length kp) (.slice Ta T.length kt)
  res : BoxW W (w.heap.size + 1) (.slice none 0 0) (.slice none 0 0) (.slice none 0 0) (.slice none 0 0) (.slice none 0 0) (.slice none 0 0)
  out : BoxW W O (.slice (some ⟨g0, 0, none⟩) R.length R.length) (.slice (some ⟨g1, 0, none⟩) c.V.length c.V.length) (.slice (some ⟨g2, 0, none⟩) c.N.length c.N.length) (.slice (some ⟨g3, 0, none⟩) c.M.length c.M.length) (.slice (some ⟨gp, 0, none⟩) P.length P.length) (.slice (some ⟨gs, 0, none⟩) T.length T.length)
  r : OwnC W g0 (cellsI R)
  tt : Tab W gs es T
  nil : OwnC W M (List.replicate m (.slice none 0 0))
  ord : w.heap.size + 2 ≤ g0 ∧ g0 < gp ∧ gp < gs ∧ es ≤ O ∧ O < M
  q : Q w W
theorem MoreS.step {W' : World} (h : MoreS w W R c P T m F A D E Pa Ta cr k1 k2 k3 kp kt g0 g1 g2 g3 gp ep gs es O M) (gr : W.grownBy W' (some gp)) : MoreT w W' R c P T m F A D E Pa Ta cr k1 k2 k3 kp kt g0 g1 g2 g3 gp ep gs es O M := by
  have h1 := h.ord
  have h2 := h.tp.lt
  have h3 := h.tt.lt
  have ne : ∀ g, gp ≠ g → (some gp : Option Nat) ≠ some g := fun g hg e => by injection e with e; exact hg e
  exact ⟨h.box.grown gr (by omega), h.res.grown gr (by omega), h.out.grown gr (by omega), h.r.grown gr (ne _ (by omega)), h.tt.far gr (.inl (by omega)), h.nil.grown gr (ne _ (by omega)), ⟨h1.1, h1.2.1, by omega, h1.2.2.2⟩, grown_q gr h.q (by omega)⟩
theorem MoreT.held (h : MoreT w W R c P T m F A D E Pa Ta cr k1 k2 k3 kp kt g0 g1 g2 g3 gp ep gs es O M) : W.cell? ⟨w.heap.size, 1, none⟩ = some (.slice A c.V.length k1) ∧ W.cell? ⟨w.heap.size, 2, none⟩ = some (.slice D c.N.length k2) ∧ W.cell? ⟨w.heap.size, 3, none⟩ = some (.slice E c.M.length k3) ∧ W.cell? ⟨O, 4, none⟩ = some (.slice (some ⟨gp, 0, none⟩) P.length P.length) ∧ W.cell? ⟨O, 5, none⟩ = some (.slice (some ⟨gs, 0, none⟩) T.length T.length) :=
  ⟨h.box.c1, h.box.c2, h.box.c3, h.out.c.c4, h.out.c.c5⟩
theorem MoreT.src (h : MoreT w W R c P T m F A D E Pa Ta cr k1 k2 k3 kp kt g0 g1 g2 g3 gp ep gs es O M) : Src W (some ⟨M, 0, none⟩) (List.replicate m (.slice none 0 0)) := OwnC.src h.nil
theorem MoreT.gsl (h : MoreT w W R c P T m F A D E Pa Ta cr k1 k2 k3 kp kt g0 g1 g2 g3 gp ep gs es O M) : gs ≤ W.heap.size := by
  have := h.tt.lt
  have := h.tt.le
  omega
theorem MoreT.kB (h : MoreT w W R c P T m F A D E Pa Ta cr k1 k2 k3 kp kt g0 g1 g2 g3 gp ep gs es O M) : ∀ b, gs ≤ b ∧ b < es ∨ b = W.heap.size → K2 w.heap.size O b := fun b hb => by
  have := h.ord
  have := h.tt.lt
  have := h.out.c.lt
  exact ⟨by omega, by omega, by omega⟩
theorem owno_step {w2 w3 W' : World} {c' : Cells} {A3 D3 E3 : Option Addr} {l1 l2 l3 O g : Nat} (h : OutO w2 w3 c' A3 l1 D3 l2 E3 l3) (gr : w3.grownBy W' (some g)) (hO : g < O ∧ gs < O ∧ O < w2.heap.size) : OwnO W' w2.heap.size A3 (cellsI c'.V) ∧ OwnO W' w2.heap.size D3 (cellsP c'.N) ∧ OwnO W' w2.heap.size E3 (cellsI c'.M) ∧ c'.V.length ≤ l1 ∧ c'.N.length ≤ l2 ∧ c'.M.length ≤ l3 ∧ O < w2.heap.size :=
  ⟨OwnO.far h.v gr (by omega), OwnO.far h.n gr (by omega), OwnO.far h.m gr (by omega), h.lv, h.ln, h.lm, hO.2.2⟩
/-- all laid: the boxes, and the answer's rows -/
structure MoreF (w W : World) (R : List Int) (c c' : Cells) (P T : List (List Int)) (F A D E Pa Ta A3 D3 E3 A4 A5 : Option Addr) (cr k1 k2 k3 kp kt l1 l2 l3 c4 c5 g0 g1 g2 g3 gp gs O np nt : Nat) (pl tl : List (List Int)) : Prop where
  boxes : BoxW W O (.slice (some ⟨g0, 0, none⟩) R.length R.length) (.slice (some ⟨g1, 0, none⟩) c.V.length c.V.length) (.slice (some ⟨g2, 0, none⟩) c.N.length c.N.length) (.slice (some ⟨g3, 0, none⟩) c.M.length c.M.length) (.slice (some ⟨gp, 0, none⟩) P.length P.length) (.slice (some ⟨gs, 0, none⟩) T.length T.length) ∧
    BoxW W (w.heap.size + 1) (.slice none 0 0) (.slice none 0 0) (.slice none 0 0) (.slice none 0 0) (.slice none 0 0) (.slice none 0 0)
  box : Box6 W w.heap.size (.slice F R.length cr) (.slice A c.V.length k1) (.slice D c.N.length k2) (.slice E c.M.length k3) (.slice Pa P.length kp) (.slice Ta T.length kt)
  g : GRP W (K2 w.heap.size O) R c' pl tl (some ⟨g0, 0, none⟩) A3 D3 E3 A4 A5 R.length l1 l2 l3 c4 c5
  O2 : w.heap.size + 2 ≤ O
  q : Q w W
theorem MoreF.held {c' : Cells} {A3 D3 E3 A4 A5 : Option Addr} {l1 l2 l3 c4 c5 np nt : Nat} {pl tl : List (List Int)} (h : MoreF w W R c c' P T F A D E Pa Ta A3 D3 E3 A4 A5 cr k1 k2 k3 kp kt l1 l2 l3 c4 c5 g0 g1 g2 g3 gp gs O np nt pl tl) : W.cell? ⟨w.heap.size, 1, none⟩ = some (.slice A c.V.length k1) ∧ W.cell? ⟨w.heap.size, 2, none⟩ = some (.slice D c.N.length k2) ∧ W.cell? ⟨w.heap.size, 3, none⟩ = some (.slice E c.M.length k3) ∧ W.cell? ⟨O, 4, none⟩ = some (.slice (some ⟨gp, 0, none⟩) P.length P.length) ∧ W.cell? ⟨O, 5, none⟩ = some (.slice (some ⟨gs, 0, none⟩) T.length T.length) :=
  ⟨h.box.c1, h.box.c2, h.box.c3, h.boxes.1.c.c4, h.boxes.1.c.c5⟩
theorem more_close {W4 W5 : World} {c' : Cells} {A3 D3 E3 A4 A5 : Option Addr} {l1 l2 l3 c4 c5 B2 : Nat} (h : MoreT w W4 R c P T m F A D E Pa Ta cr k1 k2 k3 kp kt g0 g1 g2 g3 gp ep gs es O M)
    (hO : OwnO W4 B2 A3 (cellsI c'.V) ∧ OwnO W4 B2 D3 (cellsP c'.N) ∧ OwnO W4 B2 E3 (cellsI c'.M) ∧ c'.V.length ≤ l1 ∧ c'.N.length ≤ l2 ∧ c'.M.length ≤ l3 ∧ O < B2)
    (hk4 : KeysP W4 (K1 w.heap.size O gs) A4 (P ++ List.replicate m [])) (hc4 : P.length + m ≤ c4) (hk5 : KeysP W5 (K2 w.heap.size O) A5 (T ++ List.replicate m [])) (hc5 : T.length + m ≤ c5) (gr : W4.grownBy W5 (some gs)) :
    MoreF w W5 R c c' P T F A D E Pa Ta A3 D3 E3 A4 A5 cr k1 k2 k3 kp kt l1 l2 l3 c4 c5 g0 g1 g2 g3 gp gs O (P.length + m) (T.length + m) (P ++ List.replicate m []) (T ++ List.replicate m []) := by
  have h1 := h.ord
  have h3 := h.tt.lt
  obtain ⟨oA, oD, oE, e1, e2, e3, hOB⟩ := hO
  have ne : ∀ g, gs ≠ g → (some gs : Option Nat) ≠ some g := fun g hg e => by injection e with e; exact hg e
  have hK : ∀ b, B2 ≤ b → K2 w.heap.size O b := fun b hb => ⟨by omega, by omega, by omega⟩
  have ag := agree_grown (P := K1 w.heap.size O gs) gr (fun hk => hk.1 rfl)
  refine ⟨⟨h.out.grown gr (by omega), h.res.grown gr (by omega)⟩, h.box.grown gr (by omega), ⟨.of_own (h.r.grown gr (ne _ (by omega))) ⟨by omega, by omega, by omega⟩, .of_owno (OwnO.far oA gr (by omega)) hK, .of_owno (OwnO.far oD gr (by omega)) hK, .of_owno (OwnO.far oE gr (by omega)) hK, hk4.toP ag.1 ag.2 (fun b hb _ => hb.2), hk5, Nat.le_refl _, e1, e2, e3, by simpa using hc4, by simpa using hc5⟩, by omega, grown_q gr h.q (by omega)⟩
end

set_option maxRecDepth 100000 in
set_option maxHeartbeats 8000000 in
theorem more12 (R : List Int) (c : Cells) (P T : List (List Int)) (F A D E Pa Ta : Option Addr) (nr cr n1 k1 n2 k2 n3 k3 np kp nt kt : Nat) (n : Nat) (w : World) (hr : nr = R.length) (h1 : n1 = c.V.length) (h2 : n2 = c.N.length) (h3 : n3 = c.M.length) (hp : np = P.length) (ht : nt = T.length)
    (hR : Tr.Rds w w.heap.size F (cellsI R)) (h : Rd w c A k1 D k2 E k3) (hP : Keys w w.heap.size Pa P) (hT : Keys w w.heap.size Ta T)
    (lR : R.length ≤ 2000) (hf : Few c 2000) (lP : P.length ≤ 2000) (lT : T.length ≤ 2000) (sP : ∀ k ∈ P, k.length ≤ 2000) (sT : ∀ k ∈ T, k.length ≤ 2000) (hn : n ≤ 4000) :
    Calls Tryz.prog 62 #[.agg #[.slice F nr cr, .slice A n1 k1, .slice D n2 k2, .slice E n3 k3, .slice Pa np kp, .slice Ta nt kt], .int .i64 (n : Int)] w (GAns R (moreC c (n - c.V.length)) (P ++ List.replicate (n - c.V.length) []) (T ++ List.replicate (n - c.V.length) []) w) := by
  subst hr h1 h2 h3 hp ht
  have q0 := ((Q.refl w).alloc (Obj.cells #[.slice F R.length cr, .slice A c.V.length k1, .slice D c.N.length k2, .slice E c.M.length k3, .slice Pa P.length kp, .slice Ta T.length kt] 31)).alloc (Obj.cells #[.slice none 0 0, .slice none 0 0, .slice none 0 0, .slice none 0 0, .slice none 0 0, .slice none 0 0] 31)
  have HB := Lib.hid ((Box6.new w (.slice F R.length cr) (.slice A c.V.length k1) (.slice D c.N.length k2) (.slice E c.M.length k3) (.slice Pa P.length kp) (.slice Ta T.length kt) 31).q ((Q.refl _).alloc (Obj.cells #[.slice none 0 0, .slice none 0 0, .slice none 0 0, .slice none 0 0, .slice none 0 0, .slice none 0 0] 31)))
  have X := BoxW.new (w.alloc (Obj.cells #[.slice F R.length cr, .slice A c.V.length k1, .slice D c.N.length k2, .slice E c.M.length k3, .slice Pa P.length kp, .slice Ta T.length kt] 31)) (.slice none 0 0) (.slice none 0 0) (.slice none 0 0) (.slice none 0 0) (.slice none 0 0) (.slice none 0 0) 31
  rw [World.size_alloc] at X
  have HX := Lib.hid X
  have HZ : Hid (((w.alloc (Obj.cells #[.slice F R.length cr, .slice A c.V.length k1, .slice D c.N.length k2, .slice E c.M.length k3, .slice Pa P.length kp, .slice Ta T.length kt] 31)).alloc (Obj.cells #[.slice none 0 0, .slice none 0 0, .slice none 0 0, .slice none 0 0, .slice none 0 0, .slice none 0 0] 31)).heap.size = w.heap.size + 2) := by unfold Hid; simp
  have HR := Lib.hid (hR.q q0)
  have HC := Lib.hid (h.q q0)
  have HP := Lib.hid ((hP.q (Nat.le_refl _) q0).more q0.size)
  have HT := Lib.hid ((hT.q (Nat.le_refl _) q0).more q0.size)
  have HQ0 := Lib.hid q0
  have HFw := Lib.hid hf
  obtain ⟨i0, hi, hz0, hz1, hz2⟩ := info_parts rowInfo
  have Hi := Lib.hid hi
  have Hz0 := Lib.hid hz0
  have Hz1 := Lib.hid hz1
  have Hz2 := Lib.hid hz2
  clear h X hR hP hT q0 hf hi hz0 hz1 hz2
  go_enter Tryz.func62, Tryz.ntmps62
  go_upto_region 1 with fail
  generalize (w.alloc (Obj.cells #[.slice F R.length cr, .slice A c.V.length k1, .slice D c.N.length k2, .slice E c.M.length k3, .slice Pa P.length kp, .slice Ta T.length kt] 31)).alloc (Obj.cells #[.slice none 0 0, .slice none 0 0, .slice none 0 0, .slice none 0 0, .slice none 0 0, .slice none 0 0] 31) = W0 at *
  have b0 := HB.out.c0
  have b1 := HB.out.c1
  have b2 := HB.out.c2
  have b3 := HB.out.c3
  have b4 := HB.out.c4
  have b5 := HB.out.c5
  have CC := Lib.hid (copyOf12 R c P T F A D E Pa Ta _ cr _ k1 _ k2 _ k3 _ kp _ kt W0 rfl rfl rfl rfl rfl rfl HR.out HC.out HP.out HT.out (by omega) ⟨by have := HFw.out.1; omega, by have := HFw.out.2.1; omega, by have := HFw.out.2.2; omega⟩ (by omega) (by omega) (fun k h => Nat.le_trans (sP k h) (by omega)) (fun k h => Nat.le_trans (sT k h) (by omega)))
  go_upto_region 2 with (go_at_call 125; refine CC.out.mono ?_; rintro e w1 ⟨g0, g1, g2, g3, gp, ep, gs, es, rfl, hG⟩; have HG := Lib.hid hG; unfold gVal; clear hG)
  have q2 := (Q.refl w1).alloc (Obj.cells #[(.slice (some ⟨g0, 0, none⟩) R.length R.length), (.slice (some ⟨g1, 0, none⟩) c.V.length c.V.length), (.slice (some ⟨g2, 0, none⟩) c.N.length c.N.length), (.slice (some ⟨g3, 0, none⟩) c.M.length c.M.length), (.slice (some ⟨gp, 0, none⟩) P.length P.length), (.slice (some ⟨gs, 0, none⟩) T.length T.length)] 31)
  have HO2 := Lib.hid (BoxW.new w1 (.slice (some ⟨g0, 0, none⟩) R.length R.length) (.slice (some ⟨g1, 0, none⟩) c.V.length c.V.length) (.slice (some ⟨g2, 0, none⟩) c.N.length c.N.length) (.slice (some ⟨g3, 0, none⟩) c.M.length c.M.length) (.slice (some ⟨gp, 0, none⟩) P.length P.length) (.slice (some ⟨gs, 0, none⟩) T.length T.length) 31)
  have HG2 := Lib.hid (HG.out.next q2)
  have HQ2 := Lib.hid (HG.out.q.trans q2)
  have HEs : Hid (es ≤ w1.heap.size) := HG.out.t.le
  have HZ2 : Hid ((w1.alloc (Obj.cells #[(.slice (some ⟨g0, 0, none⟩) R.length R.length), (.slice (some ⟨g1, 0, none⟩) c.V.length c.V.length), (.slice (some ⟨g2, 0, none⟩) c.N.length c.N.length), (.slice (some ⟨g3, 0, none⟩) c.M.length c.M.length), (.slice (some ⟨gp, 0, none⟩) P.length P.length), (.slice (some ⟨gs, 0, none⟩) T.length T.length)] 31)).heap.size = w1.heap.size + 1) := by unfold Hid; simp
  clear b0 b1 b2 b3 b4 b5 CC q2 HG
  generalize w1.alloc (Obj.cells #[(.slice (some ⟨g0, 0, none⟩) R.length R.length), (.slice (some ⟨g1, 0, none⟩) c.V.length c.V.length), (.slice (some ⟨g2, 0, none⟩) c.N.length c.N.length), (.slice (some ⟨g3, 0, none⟩) c.M.length c.M.length), (.slice (some ⟨gp, 0, none⟩) P.length P.length), (.slice (some ⟨gs, 0, none⟩) T.length T.length)] 31) = W1 at *
  generalize w1.heap.size = O at *
  have HB1 := Lib.hid (HB.out.q HQ2.out)
  have HX1 := Lib.hid (HX.out.q HQ2.out)
  have hN : c.V.length ≤ 2000 := HFw.out.1
  have b1 := HB1.out.c1
  by_cases hle : n ≤ c.V.length
  · have HE : Hid (n - c.V.length = 0) := by unfold Hid; omega
    have o0 := HO2.out.c.c0
    have o1 := HO2.out.c.c1
    have o2 := HO2.out.c.c2
    have o3 := HO2.out.c.c3
    have o4 := HO2.out.c.c4
    have o5 := HO2.out.c.c5
    have x0 := HX1.out.c.c0
    have x1 := HX1.out.c.c1
    have x2 := HX1.out.c.c2
    have x3 := HX1.out.c.c3
    have x4 := HX1.out.c.c4
    have x5 := HX1.out.c.c5
    have xf0 := HX1.out.f0
    have xf1 := HX1.out.f1
    have xf2 := HX1.out.f2
    have xf3 := HX1.out.f3
    have xf4 := HX1.out.f4
    have xf5 := HX1.out.f5
    have bz := HX1.out.set (.slice (some ⟨g0, 0, none⟩) R.length R.length) (.slice (some ⟨g1, 0, none⟩) c.V.length c.V.length) (.slice (some ⟨g2, 0, none⟩) c.N.length c.N.length) (.slice (some ⟨g3, 0, none⟩) c.M.length c.M.length) (.slice (some ⟨gp, 0, none⟩) P.length P.length) (.slice (some ⟨gs, 0, none⟩) T.length T.length)
    have y0 := bz.c.c0
    have y1 := bz.c.c1
    have y2 := bz.c.c2
    have y3 := bz.c.c3
    have y4 := bz.c.c4
    have y5 := bz.c.c5
    have hgr := Lib.hid (set6_grown W1 (w.heap.size + 1) (.slice (some ⟨g0, 0, none⟩) R.length R.length) (.slice (some ⟨g1, 0, none⟩) c.V.length c.V.length) (.slice (some ⟨g2, 0, none⟩) c.N.length c.N.length) (.slice (some ⟨g3, 0, none⟩) c.M.length c.M.length) (.slice (some ⟨gp, 0, none⟩) P.length P.length) (.slice (some ⟨gs, 0, none⟩) T.length T.length))
    clear bz
    go_wp2_with fail
    refine bodyPost_ret (v := gvP R c P T (some ⟨g0, 0, none⟩) (some ⟨g1, 0, none⟩) (some ⟨g2, 0, none⟩) (some ⟨g3, 0, none⟩) (some ⟨gp, 0, none⟩) (some ⟨gs, 0, none⟩) R.length c.V.length c.N.length c.M.length P.length T.length) (by simp [gvP, results, Tryz.f62, go_sem, y0, y1, y2, y3, y4, y5]) rfl ?_
    have hz := HZ.out
    have ho := HG2.out.o0
    have hg := HG2.out.grp (K := fun b => b ≠ w.heap.size + 1 ∧ w.heap.size ≤ b) (fun b h1 _ => ⟨by omega, by omega⟩)
    have hg2 := hg.to (agree_grown (P := fun b => b ≠ w.heap.size + 1 ∧ w.heap.size ≤ b) hgr.out (fun hk => hk.1 rfl)) (K' := fun b => w.heap.size ≤ b) (fun b hb _ => hb.2)
    rw [HE.out]
    rw [show P ++ List.replicate 0 ([] : List Int) = P by simp, show T ++ List.replicate 0 ([] : List Int) = T by simp]
    exact gans hg2 (grown_q hgr.out (HQ0.out.trans HQ2.out) (by omega))
  · obtain ⟨m, hm⟩ : ∃ m, m = n - c.V.length := ⟨_, rfl⟩
    have HM0 := Lib.hid hm
    have hm0 : 0 < m := by omega
    have hmn : m ≤ 4000 := by omega
    have hsub : (n : Int) - (c.V.length : Int) = (m : Int) := by omega
    have hw : wrap64 (m : Int) = (m : Int) := by unfold wrap64; omega
    have hmk := make_rows12 m (by omega)
    have d0 : decide (n ≤ c.V.length) = false := decide_eq_false hle
    have hcl : Hid (c.V.length < n) := by unfold Hid; omega
    clear hm hle
    have HM : Hid (MoreS w (W1.alloc (Obj.cells (madeCells #[.slice none 0 0] m) 24)) R c P T m F A D E Pa Ta cr k1 k2 k3 kp kt g0 g1 g2 g3 gp ep gs es O (O + 1)) := by
      have qa := (Q.refl W1).alloc (Obj.cells (madeCells #[.slice none 0 0] m) 24)
      have hz := HZ.out
      have hz2 := HZ2.out
      have ho := HG2.out.o0
      have ho1 := HG2.out.o1
      have ho2 := HG2.out.o2
      have ho3 := HG2.out.o3
      have ho4 := HG2.out.o4
      have ho5 := HG2.out.o5
      have hn0 : OwnC (W1.alloc (Obj.cells (madeCells #[.slice none 0 0] m) 24)) (O + 1) (List.replicate m (.slice none 0 0)) := by
        have := World.ownsRow_lit (e := 24) (size := 1) W1 (madeCells #[.slice none 0 0] m) m (Nat.le_refl _) (by unfold maxLen; omega) (by rw [size_madeCells]; simp)
        rw [toList_madeCells_one, hz2] at this
        exact OwnC.of_row this
      exact ⟨HB1.out.q qa, HX1.out.q qa, HO2.out.q qa, HG2.out.r.q qa, HG2.out.p.q qa, HG2.out.t.q qa, hn0, ⟨by omega, by omega, ho5, HEs.out, by omega⟩, (HQ0.out.trans HQ2.out).trans qa⟩
    have HCq := Lib.hid ((HC.out.q HQ2.out).q ((Q.refl W1).alloc (Obj.cells (madeCells #[.slice none 0 0] m) 24)))
    have HCG : Hid (∀ U, Q (W1.alloc (Obj.cells (madeCells #[.slice none 0 0] m) 24)) U → Calls Tryz.prog 126 #[.agg #[.slice A c.V.length k1, .slice D c.N.length k2, .slice E c.M.length k3], .int .i64 (n : Int)] U (OPost (moreC c m) U)) := fun U q => by
      have := grown12 c n A D E _ k1 _ k2 _ k3 U rfl rfl rfl (HCq.out.q q) HFw.out hcl.out hn
      rwa [← HM0.out] at this
    have HHn : Hid (n - c.V.length = m) := HM0.out.symm
    rw [HHn.out]
    have HOM : Hid (W1.heap.size = O + 1) := HZ2.out
    clear hN
    go_upto_region 5 with fail
    rw [HOM.out]
    generalize W1.alloc (Obj.cells (madeCells #[.slice none 0 0] m) 24) = W at *
    generalize O + 1 = M at *
    clear hmk b1 hw hsub d0 HCq
    refine begin_t (S := fun w' => w'.cell? ⟨w.heap.size, 1, none⟩ = some (.slice A c.V.length k1) ∧ w'.cell? ⟨w.heap.size, 2, none⟩ = some (.slice D c.N.length k2) ∧ w'.cell? ⟨w.heap.size, 3, none⟩ = some (.slice E c.M.length k3) ∧ w'.cell? ⟨O, 4, none⟩ = some (.slice (some ⟨gp, 0, none⟩) P.length P.length) ∧ w'.cell? ⟨O, 5, none⟩ = some (.slice (some ⟨gs, 0, none⟩) T.length T.length)) (z := 13) (by kernel_rfl) ?_ (fun hHeld => ?_)
    · exact HM.out.held
    refine take_y (i := 0) (d := some 23) (v := ?_) rfl (by kernel_rfl) (by kernel_rfl) (by kernel_rfl) (by kernel_rfl) (fun _ _ _ h => h) rfl (by rfl) ?_ (by assumption) ?_
    rotate_left
    · (intro w; go_simp; (try with_reducible rfl))
    try simp only [Act.put, List.setIfInBounds_toArray, List.set_cons_zero, List.set_cons_succ]
    refine take_t (i := 1) (d := some 24) (v := ?_) rfl (by kernel_rfl) (by kernel_rfl) (by kernel_rfl) (by kernel_rfl) (fun _ _ _ h => h) rfl (by rfl) ?_ (by assumption) ?_
    rotate_left
    · (intro w hSw; (try dsimp only at hSw); go_simp; (try with_reducible rfl))
    try simp only [Act.put, List.setIfInBounds_toArray, List.set_cons_zero, List.set_cons_succ]
    refine take_y (i := 2) (d := some 25) (v := ?_) rfl (by kernel_rfl) (by kernel_rfl) (by kernel_rfl) (by kernel_rfl) (fun _ _ _ h => h) rfl (by rfl) ?_ (by assumption) ?_
    rotate_left
    · (intro w; go_simp; (try with_reducible rfl))
    try simp only [Act.put, List.setIfInBounds_toArray, List.set_cons_zero, List.set_cons_succ]
    refine take_y (i := 4) (d := some 27) (v := ?_) rfl (by kernel_rfl) (by kernel_rfl) (by kernel_rfl) (by kernel_rfl) (fun _ _ _ h => h) rfl (by rfl) ?_ (by assumption) ?_
    rotate_left
    · (intro w; go_simp; (try with_reducible rfl))
    try simp only [Act.put, List.setIfInBounds_toArray, List.set_cons_zero, List.set_cons_succ]
    refine take_t (i := 5) (d := some 28) (v := ?_) rfl (by kernel_rfl) (by kernel_rfl) (by kernel_rfl) (by kernel_rfl) (fun _ _ _ h => h) rfl (by rfl) ?_ (by assumption) ?_
    rotate_left
    · (intro w hSw; (try dsimp only at hSw); go_simp; (try with_reducible rfl))
    try simp only [Act.put, List.setIfInBounds_toArray, List.set_cons_zero, List.set_cons_succ]
    refine take_y (i := 6) (d := some 29) (v := ?_) rfl (by kernel_rfl) (by kernel_rfl) (by kernel_rfl) (by kernel_rfl) (fun _ _ _ h => h) rfl (by rfl) ?_ (by assumption) ?_
    rotate_left
    · (intro w; go_simp; (try with_reducible rfl))
    try simp only [Act.put, List.setIfInBounds_toArray, List.set_cons_zero, List.set_cons_succ]
    refine take_y (i := 8) (d := some 31) (v := ?_) rfl (by kernel_rfl) (by kernel_rfl) (by kernel_rfl) (by kernel_rfl) (fun _ _ _ h => h) rfl (by rfl) ?_ (by assumption) ?_
    rotate_left
    · (intro w; go_simp; (try with_reducible rfl))
    try simp only [Act.put, List.setIfInBounds_toArray, List.set_cons_zero, List.set_cons_succ]
    refine take_t (i := 9) (d := some 32) (v := ?_) rfl (by kernel_rfl) (by kernel_rfl) (by kernel_rfl) (by kernel_rfl) (fun _ _ _ h => h) rfl (by rfl) ?_ (by assumption) ?_
    rotate_left
    · (intro w hSw; (try dsimp only at hSw); go_simp; (try with_reducible rfl))
    try simp only [Act.put, List.setIfInBounds_toArray, List.set_cons_zero, List.set_cons_succ]
    refine take_y (i := 10) (d := some 33) (v := ?_) rfl (by kernel_rfl) (by kernel_rfl) (by kernel_rfl) (by kernel_rfl) (fun _ _ _ h => h) rfl (by rfl) ?_ (by assumption) ?_
    rotate_left
    · (intro w; go_simp; (try with_reducible rfl))
    try simp only [Act.put, List.setIfInBounds_toArray, List.set_cons_zero, List.set_cons_succ]
    refine call_t (i := 3) rfl (by kernel_rfl) (by rfl) (fun K hK => ?_)
    go_simp
    go_at_call 126
    refine (HCG.out _ (Q.refl W).drew).mono ?_
    rintro e w3 ⟨A3, l1, D3, l2, E3, l3, rfl, hO⟩
    have HO3 := Lib.hid hO
    have HM3 := Lib.hid (HM.out.next ((Q.refl W).drew.trans hO.q))
    clear hO
    have hHeld : ((fun w' => w'.cell? ⟨w.heap.size, 1, none⟩ = some (.slice A c.V.length k1) ∧ w'.cell? ⟨w.heap.size, 2, none⟩ = some (.slice D c.N.length k2) ∧ w'.cell? ⟨w.heap.size, 3, none⟩ = some (.slice E c.M.length k3) ∧ w'.cell? ⟨O, 4, none⟩ = some (.slice (some ⟨gp, 0, none⟩) P.length P.length) ∧ w'.cell? ⟨O, 5, none⟩ = some (.slice (some ⟨gs, 0, none⟩) T.length T.length)) : World → Prop) _ := HM3.out.held
    refine hK.out _ _ (fun _ => hHeld) ?_
    clear hK K
    try simp only [Act.put, List.setIfInBounds_toArray, List.set_cons_zero, List.set_cons_succ]
    refine take_y (i := 12) (d := some 35) (v := ?_) rfl (by kernel_rfl) (by kernel_rfl) (by kernel_rfl) (by kernel_rfl) (fun _ _ _ h => h) rfl (by rfl) ?_ (by assumption) ?_
    rotate_left
    · (intro w; go_simp; (try with_reducible rfl))
    try simp only [Act.put, List.setIfInBounds_toArray, List.set_cons_zero, List.set_cons_succ]
    refine call_t (i := 7) rfl (by kernel_rfl) (by rfl) (fun K hK => ?_)
    obtain ⟨csP, ownP, -, hlP, hrP⟩ := HM3.out.tp.own
    have OwnP := Lib.hid ownP
    clear ownP
    refine wp_append_src _ (.tmp 28) (.tmp 29) _ rfl gp 24 i0 _ 1 24 Tryz.underlying23 Hi.out Hz0.out Hz1.out Hz2.out rfl (by omega) (.slice (some ⟨gp, 0, none⟩) P.length P.length) P.length csP rfl OwnP.out (some ⟨M, 0, none⟩) m m (List.replicate m (.slice none 0 0)) rfl (by simp) HM3.out.src (nils_one m) (by unfold maxLen; omega) (by omega) HM3.out.gpl ?_
    intro v4 w4 own4 gr4 bl4
    obtain ⟨A4, c4, rfl, hc4, hk4⟩ := tab_more HM3.out.tp hlP hrP own4 gr4 bl4 hm0 (P := K1 w.heap.size O gs) (HM3.out.kA)
    have HC4 := Lib.hid hc4
    have HK4 := Lib.hid hk4
    have HM4 := Lib.hid (HM3.out.step gr4)
    have HO4 := Lib.hid (owno_step HO3.out gr4 HM.out.gpO)
    clear own4 gr4 bl4 hc4 hk4 hlP hrP
    have hHeld : ((fun w' => w'.cell? ⟨w.heap.size, 1, none⟩ = some (.slice A c.V.length k1) ∧ w'.cell? ⟨w.heap.size, 2, none⟩ = some (.slice D c.N.length k2) ∧ w'.cell? ⟨w.heap.size, 3, none⟩ = some (.slice E c.M.length k3) ∧ w'.cell? ⟨O, 4, none⟩ = some (.slice (some ⟨gp, 0, none⟩) P.length P.length) ∧ w'.cell? ⟨O, 5, none⟩ = some (.slice (some ⟨gs, 0, none⟩) T.length T.length)) : World → Prop) _ := HM4.out.held
    refine hK.out _ _ (fun _ => hHeld) ?_
    clear hK K
    try simp only [Act.put, List.setIfInBounds_toArray]
    refine call_t (i := 11) rfl (by kernel_rfl) (by rfl) (fun K hK => ?_)
    obtain ⟨csT, ownT, -, hlT, hrT⟩ := HM4.out.tt.own
    have OwnT := Lib.hid ownT
    clear ownT
    refine wp_append_src _ (.tmp 32) (.tmp 33) _ rfl gs 24 i0 _ 1 24 Tryz.underlying23 Hi.out Hz0.out Hz1.out Hz2.out rfl (by omega) (.slice (some ⟨gs, 0, none⟩) T.length T.length) T.length csT rfl OwnT.out (some ⟨M, 0, none⟩) m m (List.replicate m (.slice none 0 0)) rfl (by simp) HM4.out.src (nils_one m) (by unfold maxLen; omega) (by omega) HM4.out.gsl ?_
    intro v5 w5 own5 gr5 bl5
    obtain ⟨A5, c5, rfl, hc5, hk5⟩ := tab_more HM4.out.tt hlT hrT own5 gr5 bl5 hm0 (P := K2 w.heap.size O) (HM4.out.kB)
    have HC5 := Lib.hid hc5
    have HK5 := Lib.hid hk5
    have HF5 := Lib.hid (more_close HM4.out HO4.out HK4.out HC4.out HK5.out HC5.out gr5)
    obtain ⟨hb, hres⟩ := HF5.out.boxes
    have o1 := hb.c.c1
    have o2 := hb.c.c2
    have o3 := hb.c.c3
    have o4 := hb.c.c4
    have o5 := hb.c.c5
    have z1 := hb.f1
    have z2 := hb.f2
    have z3 := hb.f3
    have z4 := hb.f4
    have z5 := hb.f5
    have hh := HF5.out.held
    clear own5 gr5 bl5 hc5 hk5 hb hres hlT hrT
    have hHeld : ((fun w' => w'.cell? ⟨w.heap.size, 1, none⟩ = some (.slice A c.V.length k1) ∧ w'.cell? ⟨w.heap.size, 2, none⟩ = some (.slice D c.N.length k2) ∧ w'.cell? ⟨w.heap.size, 3, none⟩ = some (.slice E c.M.length k3) ∧ w'.cell? ⟨O, 4, none⟩ = some (.slice (some ⟨gp, 0, none⟩) P.length P.length) ∧ w'.cell? ⟨O, 5, none⟩ = some (.slice (some ⟨gs, 0, none⟩) T.length T.length)) : World → Prop) _ := hh
    refine hK.out _ _ (fun _ => hHeld) ?_
    clear hK K
    try simp only [Act.put]
    refine call_t (i := 13) rfl (by kernel_rfl) (by rfl) (fun K hK => ?_)
    go_simp
    refine hK.out _ _ (fun hz => by cases hz) ?_
    clear hK K
    try simp only [Act.put, List.setIfInBounds_toArray, List.set_cons_zero, List.set_cons_succ]
    refine call_t (i := 14) rfl (by kernel_rfl) (by rfl) (fun K hK => ?_)
    go_simp
    refine hK.out _ _ (fun hz => by cases hz) ?_
    clear hK K
    try simp only [Act.put, List.setIfInBounds_toArray, List.set_cons_zero, List.set_cons_succ]
    refine call_t (i := 15) rfl (by kernel_rfl) (by rfl) (fun K hK => ?_)
    go_simp
    refine hK.out _ _ (fun hz => by cases hz) ?_
    clear hK K
    try simp only [Act.put, List.setIfInBounds_toArray, List.set_cons_zero, List.set_cons_succ]
    refine call_t (i := 16) rfl (by kernel_rfl) (by rfl) (fun K hK => ?_)
    go_simp
    refine hK.out _ _ (fun hz => by cases hz) ?_
    clear hK K
    try simp only [Act.put, List.setIfInBounds_toArray, List.set_cons_zero, List.set_cons_succ]
    refine call_t (i := 17) rfl (by kernel_rfl) (by rfl) (fun K hK => ?_)
    go_simp
    refine hK.out _ _ (fun hz => by cases hz) ?_
    clear hK K
    try simp only [Act.put, List.setIfInBounds_toArray, List.set_cons_zero, List.set_cons_succ]
    refine done_t (by kernel_rfl) ?_ _
    clear o1 o2 o3 o4 o5 z1 z2 z3 z4 z5 hh hHeld
    have HO6 := Lib.hid (HF5.out.boxes.1.set5 (.slice A3 (moreC c m).V.length l1) (.slice D3 (moreC c m).N.length l2) (.slice E3 (moreC c m).M.length l3) (.slice A4 (P.length + m) c4) (.slice A5 (T.length + m) c5))
    have hg6 := set5_grown w5 O (.slice A3 (moreC c m).V.length l1) (.slice D3 (moreC c m).N.length l2) (.slice E3 (moreC c m).M.length l3) (.slice A4 (P.length + m) c4) (.slice A5 (T.length + m) c5)
    have HX6 := Lib.hid (HF5.out.boxes.2.grown hg6 (by have := HF5.out.O2; omega))
    have HG6 := Lib.hid (HF5.out.g.to (agree_grown hg6 (fun hk => hk.1 rfl)) (K' := fun b => b ≠ w.heap.size + 1 ∧ w.heap.size ≤ b) (fun b hb _ => hb.2))
    have HQ6 := Lib.hid (grown_q hg6 HF5.out.q (by have := HF5.out.O2; omega))
    clear hg6
    generalize ((((w5.setCell ⟨O, 1, none⟩ (.slice A3 (moreC c m).V.length l1)).setCell ⟨O, 2, none⟩ (.slice D3 (moreC c m).N.length l2)).setCell ⟨O, 3, none⟩ (.slice E3 (moreC c m).M.length l3)).setCell ⟨O, 4, none⟩ (.slice A4 (P.length + m) c4)).setCell ⟨O, 5, none⟩ (.slice A5 (T.length + m) c5) = W6 at *
    have o0 := HO6.out.c.c0
    have o1 := HO6.out.c.c1
    have o2 := HO6.out.c.c2
    have o3 := HO6.out.c.c3
    have o4 := HO6.out.c.c4
    have o5 := HO6.out.c.c5
    have x0 := HX6.out.c.c0
    have x1 := HX6.out.c.c1
    have x2 := HX6.out.c.c2
    have x3 := HX6.out.c.c3
    have x4 := HX6.out.c.c4
    have x5 := HX6.out.c.c5
    have xf0 := HX6.out.f0
    have xf1 := HX6.out.f1
    have xf2 := HX6.out.f2
    have xf3 := HX6.out.f3
    have xf4 := HX6.out.f4
    have xf5 := HX6.out.f5
    have bz := HX6.out.set (.slice (some ⟨g0, 0, none⟩) R.length R.length) (.slice A3 (moreC c m).V.length l1) (.slice D3 (moreC c m).N.length l2) (.slice E3 (moreC c m).M.length l3) (.slice A4 (P.length + m) c4) (.slice A5 (T.length + m) c5)
    have y0 := bz.c.c0
    have y1 := bz.c.c1
    have y2 := bz.c.c2
    have y3 := bz.c.c3
    have y4 := bz.c.c4
    have y5 := bz.c.c5
    have hgr := Lib.hid (set6_grown W6 (w.heap.size + 1) (.slice (some ⟨g0, 0, none⟩) R.length R.length) (.slice A3 (moreC c m).V.length l1) (.slice D3 (moreC c m).N.length l2) (.slice E3 (moreC c m).M.length l3) (.slice A4 (P.length + m) c4) (.slice A5 (T.length + m) c5))
    clear bz
    go_wp2_with fail
    have hl1 : (P ++ List.replicate m ([] : List Int)).length = P.length + m := by simp
    have hl2 : (T ++ List.replicate m ([] : List Int)).length = T.length + m := by simp
    refine bodyPost_ret (v := gvP R (moreC c m) (P ++ List.replicate m []) (T ++ List.replicate m []) (some ⟨g0, 0, none⟩) A3 D3 E3 A4 A5 R.length l1 l2 l3 c4 c5) (by unfold gvP; rw [hl1, hl2]; simp [results, Tryz.f62, go_sem, y0, y1, y2, y3, y4, y5]) rfl ?_
    rw [HHn.out]
    exact gans (HG6.out.to (agree_grown (P := fun b => b ≠ w.heap.size + 1 ∧ w.heap.size ≤ b) hgr.out (fun hk => hk.1 rfl)) (fun b hb _ => hb.2)) (grown_q hgr.out HQ6.out (by omega))
end Go.Proofs.YtnifmfdlocgefaaGreat.Ig

namespace Go.Proofs.YtnifmfdlocgefaaGreat.Rw
open Go.RowKit Kit

/-- any token as memory has it: its kind, its text, where it begins -/
abbrev Tg := Int × ByteArray × Int
/-- two texts are the same -/
def eqS (a b : ByteArray) : Bool := a.toList == b.toList
theorem eqS_iff (a b : ByteArray) : eqS a b = true ↔ a = b := by
  unfold eqS
  rw [beq_iff_eq, ByteArray.toList_eq, ByteArray.toList_eq]
  exact ⟨fun h => ByteArray.ext (Array.toList_inj.mp h), fun h => by rw [h]⟩
end Go.Proofs.YtnifmfdlocgefaaGreat.Rw
