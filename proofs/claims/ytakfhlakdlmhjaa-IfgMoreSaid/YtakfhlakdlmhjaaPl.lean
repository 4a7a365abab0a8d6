/-
  What the proofs lean on, part 12 of 13.
-/
import Derived.Test.YtakfhlakdlmhjaaPb
import Derived.Test.YtakfhlakdlmhjaaPe
import Derived.Test.YtakfhlakdlmhjaaPf
import Derived.Test.YtakfhlakdlmhjaaPh
import Derived.Test.YtakfhlakdlmhjaaPi
import Derived.Test.YtakfhlakdlmhjaaPk
import Derived.Laws.EntriesVeiled
namespace Go.Proofs.Ytakfhlakdlmhjaa.Ig
open Go.RowKit Kit Tr Uf
open Go.Proofs.Ytakfhlakdlmhjaa.Hs (Keys Ints BoxT layI)
open Go.Proofs.Ytakfhlakdlmhjaa.St (cellsQ cellsQ_append cellsQ_len pairInfo PI)
set_option maxRecDepth 100000 in
set_option maxHeartbeats 4000000 in
theorem allAbove12 (R V : List Int) (A S Av D E Pa Ta Br : Option Addr) (N : List Note) (M : List Int) (n c ms d nv cv n2 k2 n3 k3 cp ct np nt nb cb : Nat) (r : Value) (ks : List (List Int)) (row : List Int) (y : Int) (w : World) (hn : n = ks.length) (hm : ms = (layI ks).length) (hk : Keys w w.heap.size A ks) (hS : Ints w w.heap.size S (layI ks)) (hO : OkS ks)
    (hnv : nv = V.length) (hv : Rd w ⟨V, N, M⟩ Av cv D k2 E k3) (h2 : n2 = N.length) (h3 : n3 = M.length) (hC : Cl R V) (hlv : V.length ≤ 1000000) (hp : np = V.length) (ht : nt = V.length) (hA : allV ks V.length = true) (hnb : nb = row.length) (hrow : Tr.Rds w w.heap.size Br (cellsI row)) (hrl : row.length ≤ 1000000) :
    Calls Try.prog 56 #[.agg #[.slice A n c, .slice S ms d], .agg #[r, .slice Av nv cv, .slice D n2 k2, .slice E n3 k3, .slice Pa np cp, .slice Ta nt ct], .int .i64 y, .slice Br nb cb] w fun e w' => ∃ v, e = .returned v ∧ w'.ownsRow w.heap.size 50 2 v row.length (cellsQ (row.map fun x => (y, repV ks V x))) ∧ Q w w' := by
  subst hn hm hnv h2 h3 hp ht hnb
  obtain ⟨i0, hi, hz0, hz1, hz2⟩ := info_parts pairInfo
  have Hi := Lib.hid hi
  have Hz0 := Lib.hid hz0
  have Hz1 := Lib.hid hz1
  have Hz2 := Lib.hid hz2
  clear hi hz0 hz1 hz2
  have q0 := ((Q.refl w).alloc (Obj.cells #[.slice A ks.length c, .slice S (layI ks).length d] 26)).alloc (Obj.cells #[r, .slice Av V.length cv, .slice D N.length k2, .slice E M.length k3, .slice Pa V.length cp, .slice Ta V.length ct] 31)
  have HB := Lib.hid ((BoxT.new w (.slice A ks.length c) (.slice S (layI ks).length d) 26).q ((Q.refl _).alloc (Obj.cells #[r, .slice Av V.length cv, .slice D N.length k2, .slice E M.length k3, .slice Pa V.length cp, .slice Ta V.length ct] 31)))
  have X := Box6.new (w.alloc (Obj.cells #[.slice A ks.length c, .slice S (layI ks).length d] 26)) r (.slice Av V.length cv) (.slice D N.length k2) (.slice E M.length k3) (.slice Pa V.length cp) (.slice Ta V.length ct) 31
  rw [World.size_alloc] at X
  have HG := Lib.hid X
  have HQ0 := Lib.hid q0
  have HRow := Lib.hid (hrow.q q0)
  have CR : Hid (∀ (x : Int) (U : World), Q w U → Calls Try.prog 7 #[.agg #[.slice A ks.length c, .slice S (layI ks).length d], .agg #[r, .slice Av V.length cv, .slice D N.length k2, .slice E M.length k3, .slice Pa V.length cp, .slice Ta V.length ct], .int .i64 x] U fun e w' => e = .returned (.int .i64 (repV ks V x)) ∧ Q U w') := fun x U q =>
    rep12 R V A S Av D E Pa Ta N M _ c _ d _ cv _ k2 _ k3 cp ct _ _ r ks x U rfl rfl ((hk.q (Nat.le_refl _) q).more q.size) ((hS.q (Nat.le_refl _) q).more q.size) hO rfl (hv.q q) rfl rfl hC hlv rfl rfl hA
  clear hk hS hO hv hC hlv hA hrow X q0
  go_enter Try.func56, Try.ntmps56
  go_wp2_with fail
  generalize (w.alloc (Obj.cells #[.slice A ks.length c, .slice S (layI ks).length d] 26)).alloc (Obj.cells #[r, .slice Av V.length cv, .slice D N.length k2, .slice E M.length k3, .slice Pa V.length cp, .slice Ta V.length ct] 31) = W0 at *
  go_loopw [9, 14] (fun ov i wr => ∃ k : Nat, k ≤ row.length ∧ i = .int .i64 k ∧ Hid (wr.ownsRow W0.heap.size 50 2 ov k (cellsQ ((row.take k).map fun x => (y, repV ks V x)))) ∧ Hid (Q W0 wr)) (fun _ i _ => row.length - (intOf i).toNat)
  case atStart => exact ⟨0, Nat.zero_le _, rfl, Lib.hid (World.ownsRow_nil _ _ _ _), Lib.hid (Q.refl _)⟩
  case round =>
    obtain ⟨k, hk, rfl, HR, HQ⟩ := hrel
    by_cases hlt : k < row.length
    · obtain ⟨ad, rfl, hadb, a0⟩ := (HRow.out.q HQ.out).int_at hlt
      have HBr := Lib.hid (HB.out.q HQ.out)
      have HGr := Lib.hid (HG.out.q HQ.out)
      have b0 := HBr.out.c0
      have b1' := HBr.out.c1
      have g0 := HGr.out.c0
      have g1 := HGr.out.c1
      have g2 := HGr.out.c2
      have g3 := HGr.out.c3
      have g4 := HGr.out.c4
      have g5 := HGr.out.c5
      have C := Lib.hid (CR.out row[k] wr (HQ0.out.trans HQ.out))
      have HT : Hid (cellsQ ((row.take k).map fun x => (y, repV ks V x)) ++ [.int .i64 y, .int .i64 (repV ks V row[k])] = cellsQ ((row.take (k + 1)).map fun x => (y, repV ks V x))) := by
        unfold Hid
        rw [List.take_succ_eq_append_getElem hlt, List.map_append, cellsQ_append]; rfl
      clear hadb
      go_wp2_with (first
        | (go_at_call 7; refine C.out.mono ?_; rintro e w3 ⟨rfl, q3⟩; have qa := q3.alloc (Obj.cells #[.int .i64 y, .int .i64 (repV ks V row[k])] 50); have HOw := Lib.hid (Tr.row_kept HR.out qa (Nat.le_refl _)); have HSr : Hid (Src (w3.alloc (Obj.cells #[.int .i64 y, .int .i64 (repV ks V row[k])] 50)) (some ⟨w3.heap.size, 0, none⟩) [.int .i64 y, .int .i64 (repV ks V row[k])]) := Lib.hid (src_block (heap_alloc_new w3 (Obj.cells #[.int .i64 y, .int .i64 (repV ks V row[k])] 50))); have HQa := Lib.hid (HQ.out.trans qa); clear b0 b1' g0 g1 g2 g3 g4 g5 C q3 qa a0)
        | (at_builtin; refine wpList_append_src _ rfl (.tmp 18) (.tmp 25) _ rfl W0.heap.size 50 i0 _ 2 16 Try.underlying44 Hi.out Hz0.out Hz1.out Hz2.out rfl (by omega) _ k _ rfl HOw.out (some ⟨w3.heap.size, 0, none⟩) 1 1 [.int .i64 y, .int .i64 (repV ks V row[k])] rfl rfl HSr.out (by simp [Value.oneCell']) (by unfold maxLen; omega) (by omega) HQa.out.size ?_; intro v5 w5 own5 gr5 _))
      have HQ5 := Lib.hid (HQa.out.grown gr5 HQa.out.size (fun b hb => (HOw.out.lt b hb).1))
      rw [HT.out] at own5
      have HR5 := Lib.hid own5
      clear own5 gr5
      go_roundw
      case rel => exact ⟨k + 1, by omega, by go_num, HR5, HQ5⟩
      case measure => simp [intOf]; omega
    · obtain rfl : k = row.length := by omega
      rw [List.take_length] at HR
      go_wp2_with fail
      go_ret
      exact ⟨_, rfl, Tr.row_kept HR.out (Q.refl _) HQ0.out.size, HQ0.out.trans HQ.out⟩
end Go.Proofs.Ytakfhlakdlmhjaa.Ig

namespace Go.Proofs.Ytakfhlakdlmhjaa.Ig
open Go.RowKit Kit Tr Uf
open Go.Proofs.Ytakfhlakdlmhjaa.Hs (Keys Ints BoxT layI Dist refLay_any LayPost)
open Go.Proofs.Ytakfhlakdlmhjaa.Tm (Tm termAt of_any Box4)
def twoK : List (List Int) := [[0, 0, 0], [1, 0, 0], [2, 0, 0], [2, 1, 0]]
theorem own_ints12 {w : World} {g : Nat} {l : List Int} {K : Nat → Prop} (h : OwnC w g (cellsI l)) (hk : K g) : Hs.IntsP w K (some ⟨g, 0, none⟩) l := fun _ => ⟨_, rfl, hk, h.1, fun i x hx => by rw [Tr.add_zero_head]; exact (h.2 i _ (by simp [cellsI, hx])).1⟩
theorem own_new12 (w : World) (cs : List Value) (t : TypeId) : OwnC (w.alloc (.cells cs.toArray t)) w.heap.size cs := by
  refine ⟨by simp, fun j v hv => ⟨?_, World.frozen?_alloc_at _ _ _ _ rfl⟩⟩
  rw [cell_of_row _ _ _ _ _ _ (heap_alloc_new w _)]
  simpa using hv
theorem two_keys (W0 : World) : Hs.KeysP (((((W0.alloc (Obj.cells #[.int .i64 0, .int .i64 0, .int .i64 0] 3)).alloc (Obj.cells #[.int .i64 1, .int .i64 0, .int .i64 0] 3)).alloc (Obj.cells #[.int .i64 2, .int .i64 0, .int .i64 0] 3)).alloc (Obj.cells #[.int .i64 2, .int .i64 1, .int .i64 0] 3)).alloc (Obj.cells #[.slice (some ⟨W0.heap.size, 0, none⟩) 3 3, .slice (some ⟨(W0.heap.size + 1), 0, none⟩) 3 3, .slice (some ⟨(W0.heap.size + 1 + 1), 0, none⟩) 3 3, .slice (some ⟨(W0.heap.size + 1 + 1 + 1), 0, none⟩) 3 3] 24)) (fun b => W0.heap.size ≤ b) (some ⟨(W0.heap.size + 1 + 1 + 1 + 1), 0, none⟩) twoK ∧ Q W0 (((((W0.alloc (Obj.cells #[.int .i64 0, .int .i64 0, .int .i64 0] 3)).alloc (Obj.cells #[.int .i64 1, .int .i64 0, .int .i64 0] 3)).alloc (Obj.cells #[.int .i64 2, .int .i64 0, .int .i64 0] 3)).alloc (Obj.cells #[.int .i64 2, .int .i64 1, .int .i64 0] 3)).alloc (Obj.cells #[.slice (some ⟨W0.heap.size, 0, none⟩) 3 3, .slice (some ⟨(W0.heap.size + 1), 0, none⟩) 3 3, .slice (some ⟨(W0.heap.size + 1 + 1), 0, none⟩) 3 3, .slice (some ⟨(W0.heap.size + 1 + 1 + 1), 0, none⟩) 3 3] 24)) := by
  have o0 := own_new12 W0 [.int .i64 0, .int .i64 0, .int .i64 0] 3
  have q0 := (Q.refl W0).alloc (Obj.cells #[.int .i64 0, .int .i64 0, .int .i64 0] 3)
  have z0 : (W0.alloc (Obj.cells #[.int .i64 0, .int .i64 0, .int .i64 0] 3)).heap.size = W0.heap.size + 1 := by simp
  generalize W0.alloc (Obj.cells #[.int .i64 0, .int .i64 0, .int .i64 0] 3) = X1 at *
  have o1 := own_new12 X1 [.int .i64 1, .int .i64 0, .int .i64 0] 3
  have q1 := (Q.refl X1).alloc (Obj.cells #[.int .i64 1, .int .i64 0, .int .i64 0] 3)
  have z1 : (X1.alloc (Obj.cells #[.int .i64 1, .int .i64 0, .int .i64 0] 3)).heap.size = X1.heap.size + 1 := by simp
  generalize X1.alloc (Obj.cells #[.int .i64 1, .int .i64 0, .int .i64 0] 3) = X2 at *
  have o2 := own_new12 X2 [.int .i64 2, .int .i64 0, .int .i64 0] 3
  have q2 := (Q.refl X2).alloc (Obj.cells #[.int .i64 2, .int .i64 0, .int .i64 0] 3)
  have z2 : (X2.alloc (Obj.cells #[.int .i64 2, .int .i64 0, .int .i64 0] 3)).heap.size = X2.heap.size + 1 := by simp
  generalize X2.alloc (Obj.cells #[.int .i64 2, .int .i64 0, .int .i64 0] 3) = X3 at *
  have o3 := own_new12 X3 [.int .i64 2, .int .i64 1, .int .i64 0] 3
  have q3 := (Q.refl X3).alloc (Obj.cells #[.int .i64 2, .int .i64 1, .int .i64 0] 3)
  have z3 : (X3.alloc (Obj.cells #[.int .i64 2, .int .i64 1, .int .i64 0] 3)).heap.size = X3.heap.size + 1 := by simp
  generalize X3.alloc (Obj.cells #[.int .i64 2, .int .i64 1, .int .i64 0] 3) = X4 at *
  have e1 : X1.heap.size = W0.heap.size + 1 := z0
  have e2 : X2.heap.size = W0.heap.size + 1 + 1 := by omega
  have e3 : X3.heap.size = W0.heap.size + 1 + 1 + 1 := by omega
  have e4 : X4.heap.size = W0.heap.size + 1 + 1 + 1 + 1 := by omega
  have o4 := own_new12 X4 [.slice (some ⟨W0.heap.size, 0, none⟩) 3 3, .slice (some ⟨(W0.heap.size + 1), 0, none⟩) 3 3, .slice (some ⟨(W0.heap.size + 1 + 1), 0, none⟩) 3 3, .slice (some ⟨(W0.heap.size + 1 + 1 + 1), 0, none⟩) 3 3] 24
  have q4 := (Q.refl X4).alloc (Obj.cells #[.slice (some ⟨W0.heap.size, 0, none⟩) 3 3, .slice (some ⟨(W0.heap.size + 1), 0, none⟩) 3 3, .slice (some ⟨(W0.heap.size + 1 + 1), 0, none⟩) 3 3, .slice (some ⟨(W0.heap.size + 1 + 1 + 1), 0, none⟩) 3 3] 24)
  rw [e4] at o4
  rw [e1] at o1
  rw [e2] at o2
  rw [e3] at o3
  generalize X4.alloc (Obj.cells #[.slice (some ⟨W0.heap.size, 0, none⟩) 3 3, .slice (some ⟨(W0.heap.size + 1), 0, none⟩) 3 3, .slice (some ⟨(W0.heap.size + 1 + 1), 0, none⟩) 3 3, .slice (some ⟨(W0.heap.size + 1 + 1 + 1), 0, none⟩) 3 3] 24) = X5 at *
  have q34 := q3.trans q4
  have q24 := q2.trans q34
  have q14 := q1.trans q24
  refine ⟨fun _ => ⟨_, rfl, (by show W0.heap.size ≤ W0.heap.size + 1 + 1 + 1 + 1; omega), o4.1, fun i k hk => ?_⟩, q0.trans q14⟩
  match i, hk with
  | 0, hk =>
    obtain rfl : [0, 0, 0] = k := by simpa [twoK] using hk
    exact ⟨some ⟨W0.heap.size, 0, none⟩, 3, Nat.le_refl _, by rw [Hs.add_zero_head]; exact (o4.2 0 _ rfl).1, own_ints12 (l := [0, 0, 0]) (o0.q q14) (by show W0.heap.size ≤ W0.heap.size; omega)⟩
  | 1, hk =>
    obtain rfl : [1, 0, 0] = k := by simpa [twoK] using hk
    exact ⟨some ⟨(W0.heap.size + 1), 0, none⟩, 3, Nat.le_refl _, by rw [Hs.add_zero_head]; exact (o4.2 1 _ rfl).1, own_ints12 (l := [1, 0, 0]) (o1.q q24) (by show W0.heap.size ≤ (W0.heap.size + 1); omega)⟩
  | 2, hk =>
    obtain rfl : [2, 0, 0] = k := by simpa [twoK] using hk
    exact ⟨some ⟨(W0.heap.size + 1 + 1), 0, none⟩, 3, Nat.le_refl _, by rw [Hs.add_zero_head]; exact (o4.2 2 _ rfl).1, own_ints12 (l := [2, 0, 0]) (o2.q q34) (by show W0.heap.size ≤ (W0.heap.size + 1 + 1); omega)⟩
  | 3, hk =>
    obtain rfl : [2, 1, 0] = k := by simpa [twoK] using hk
    exact ⟨some ⟨(W0.heap.size + 1 + 1 + 1), 0, none⟩, 3, Nat.le_refl _, by rw [Hs.add_zero_head]; exact (o4.2 3 _ rfl).1, own_ints12 (l := [2, 1, 0]) (o3.q q4) (by show W0.heap.size ≤ (W0.heap.size + 1 + 1 + 1); omega)⟩
  | i + 4, hk => simp [twoK] at hk
/-- the store is as it is in whatever world comes -/
def TwoPost (w : World) (e : Ending) (w' : World) : Prop := ∃ A S, e = .returned (.agg #[.slice A 4 4, .slice S 8 8]) ∧ Keys w' w'.heap.size A twoK ∧ Ints w' w'.heap.size S (layI twoK) ∧ Q w w'
theorem size_two : Hs.sizeN twoK.length = 8 := by
  show Hs.sizeN 4 = 8
  unfold Hs.sizeN; rw [Hs.sizeG_ge (by omega)]
set_option maxRecDepth 100000 in
set_option maxHeartbeats 4000000 in
theorem two_any (w : World) : Calls Try.prog 13 #[] w (TwoPost w) := by
  have HZ := Lib.hid (BoxT.new w (.slice none 0 0) (.slice none 0 0) 26)
  have HQ0 := Lib.hid ((Q.refl w).alloc (Obj.cells #[.slice none 0 0, .slice none 0 0] 26))
  have HF : Hid ((w.alloc (Obj.cells #[.slice none 0 0, .slice none 0 0] 26)).frozen? ⟨w.heap.size, 0, none⟩ = false ∧ (w.alloc (Obj.cells #[.slice none 0 0, .slice none 0 0] 26)).frozen? ⟨w.heap.size, 1, none⟩ = false) := by unfold Hid; simp
  have HOw := Lib.hid (own_new12 w [.slice none 0 0, .slice none 0 0] 26)
  go_enter Try.func13, Try.ntmps13
  go_upto_region 1 with fail
  generalize w.alloc (Obj.cells #[.slice none 0 0, .slice none 0 0] 26) = W0 at *
  obtain ⟨hk, hq⟩ := two_keys W0
  have HK := Lib.hid hk
  have HQ1 := Lib.hid hq
  clear hk hq
  go_upto_region 2 with fail
  generalize (((((W0.alloc (Obj.cells #[.int .i64 0, .int .i64 0, .int .i64 0] 3)).alloc (Obj.cells #[.int .i64 1, .int .i64 0, .int .i64 0] 3)).alloc (Obj.cells #[.int .i64 2, .int .i64 0, .int .i64 0] 3)).alloc (Obj.cells #[.int .i64 2, .int .i64 1, .int .i64 0] 3)).alloc (Obj.cells #[.slice (some ⟨W0.heap.size, 0, none⟩) 3 3, .slice (some ⟨(W0.heap.size + 1), 0, none⟩) 3 3, .slice (some ⟨(W0.heap.size + 1 + 1), 0, none⟩) 3 3, .slice (some ⟨(W0.heap.size + 1 + 1 + 1), 0, none⟩) 3 3] 24)) = X5 at *
  have CL := Lib.hid (refLay_any (some ⟨(W0.heap.size + 1 + 1 + 1 + 1), 0, none⟩) 4 4 twoK X5 rfl HK.out.keys (by decide) (by decide))
  go_wp2_with (go_at_call 31; refine CL.out.mono ?_; rintro e w1 ⟨g, rfl, hg, hO, q1⟩; rw [size_two]; have HO := Lib.hid hO; have HQ2 := Lib.hid q1; have hb := HOw.out.q (HQ1.out.trans q1); have x0 := (hb.2 0 _ rfl).1; have x1 := (hb.2 1 _ rfl).1; have f0 := (hb.2 0 _ rfl).2; have f1 := (hb.2 1 _ rfl).2; have HB := Lib.hid hb; have Hg := Lib.hid hg; clear hO hb hg q1)
  have hb2 := (HB.out.set (s := 0) (by simp) (.slice (some ⟨(W0.heap.size + 1 + 1 + 1 + 1), 0, none⟩) 4 4)).set (s := 1) (by simp) (.slice (some ⟨g, 0, none⟩) 8 8)
  have y0 := (hb2.2 0 _ rfl).1
  have y1 := (hb2.2 1 _ rfl).1
  have gr := grown_trans (setCell_grown w1 w.heap.size 0 (.slice (some ⟨(W0.heap.size + 1 + 1 + 1 + 1), 0, none⟩) 4 4)) (setCell_grown (w1.setCell ⟨w.heap.size, 0, none⟩ (.slice (some ⟨(W0.heap.size + 1 + 1 + 1 + 1), 0, none⟩) 4 4)) w.heap.size 1 (.slice (some ⟨g, 0, none⟩) 8 8))
  refine bodyPost_ret (v := .agg #[.slice (some ⟨(W0.heap.size + 1 + 1 + 1 + 1), 0, none⟩) 4 4, .slice (some ⟨g, 0, none⟩) 8 8]) (by simp [results, Try.f13, go_sem, y0, y1]) rfl ⟨_, _, rfl, ?_, ?_, grown_q gr (HQ0.out.trans (HQ1.out.trans HQ2.out)) (Nat.le_refl _)⟩
  · have hw0 := HZ.out.lt
    exact ((HK.out.q HQ2.out).to gr.size (agree_grown (P := fun b => W0.heap.size ≤ b) gr (by show ¬ W0.heap.size ≤ w.heap.size; omega)).2)
  · have hw0 := HZ.out.lt
    have hg := Hg.out
    have hs := HQ1.out.size
    have := (own_ints12 (K := fun b => W0.heap.size ≤ b) (w := w1) (g := g) (l := layI twoK) ⟨HO.out.1, fun j v hv => by
      have hj := (List.getElem?_eq_some_iff.1 hv).1
      rw [cellsI_len] at hj
      rw [cellsI_at hj] at hv
      injection hv with hv
      subst hv
      exact HO.out.at_ hj⟩ (by show W0.heap.size ≤ g; omega))
    exact this.to gr.size (agree_grown (P := fun b => W0.heap.size ≤ b) gr (by show ¬ W0.heap.size ≤ w.heap.size; omega)).2
end Go.Proofs.Ytakfhlakdlmhjaa.Ig

namespace Go.Proofs.Ytakfhlakdlmhjaa.Ig
open Go.RowKit Kit Tr Uf
open Go.Proofs.Ytakfhlakdlmhjaa.Hs (Keys Ints BoxT layI)
open Go.Proofs.Ytakfhlakdlmhjaa.Tm (Tm termAt of_any Box4)
/-- the boxes that a closure sees -/
def threeF (w : World) (a1 a2 f1 f2 f3 f4 f5 f6 s : Value) : World := ((w.alloc (.cells #[a1, a2] 26)).alloc (.cells #[f1, f2, f3, f4, f5, f6] 31)).alloc (.cells #[s] 24)
def mayFn (B : Nat) : Value := .func (.func 81) #[] #[.pointer (some ⟨B, 0, none⟩), .pointer (some ⟨B + 1, 0, none⟩), .pointer (some ⟨B + 1 + 1, 0, none⟩)]
theorem mayStand_any (a1 a2 f1 f2 f3 f4 f5 f6 : Value) (kb : Option Addr) (nk ck : Nat) (w : World) :
    Calls Try.prog 61 #[.agg #[a1, a2], .agg #[f1, f2, f3, f4, f5, f6], .slice kb nk ck] w fun e w' => e = .returned (mayFn w.heap.size) ∧ w' = threeF w a1 a2 f1 f2 f3 f4 f5 f6 (.slice kb nk ck) := by
  go_enter Try.func61, Try.ntmps61
  go_wp2_with fail
  go_ret
  exact ⟨rfl, rfl⟩
/-- a closure that was made: it is called so, and its boxes hold the store, and the graph -/
def MayPost (a1 a2 f1 f2 f3 f4 f5 f6 : Value) (w : World) (e : Ending) (w' : World) : Prop := ∃ B, e = .returned (mayFn B) ∧ BoxT w' B a1 a2 ∧ Box6 w' (B + 1) f1 f2 f3 f4 f5 f6 ∧ Q w w'
theorem threeF_boxes (w W : World) (a1 a2 f1 f2 f3 f4 f5 f6 s : Value) (q : Q w W) : BoxT (threeF W a1 a2 f1 f2 f3 f4 f5 f6 s) W.heap.size a1 a2 ∧ Box6 (threeF W a1 a2 f1 f2 f3 f4 f5 f6 s) (W.heap.size + 1) f1 f2 f3 f4 f5 f6 ∧ Q w (threeF W a1 a2 f1 f2 f3 f4 f5 f6 s) := by
  refine ⟨(BoxT.new W a1 a2 26).q (((Q.refl _).alloc _).alloc _), ?_, ((q.alloc _).alloc _).alloc _⟩
  have X := (Box6.new (W.alloc (.cells #[a1, a2] 26)) f1 f2 f3 f4 f5 f6 31).q ((Q.refl _).alloc (.cells #[s] 24))
  rw [World.size_alloc] at X
  exact X
set_option maxRecDepth 100000 in
set_option maxHeartbeats 2000000 in
theorem inPre_any (a1 a2 f1 f2 f3 f4 f5 f6 : Value) (w : World) : Calls Try.prog 34 #[.agg #[a1, a2], .agg #[f1, f2, f3, f4, f5, f6]] w (MayPost a1 a2 f1 f2 f3 f4 f5 f6 w) := by
  have q0 := ((Q.refl w).alloc (Obj.cells #[a1, a2] 26)).alloc (Obj.cells #[f1, f2, f3, f4, f5, f6] 31)
  have HB := Lib.hid ((BoxT.new w a1 a2 26).q ((Q.refl _).alloc (Obj.cells #[f1, f2, f3, f4, f5, f6] 31)))
  have X := Box6.new (w.alloc (Obj.cells #[a1, a2] 26)) f1 f2 f3 f4 f5 f6 31
  rw [World.size_alloc] at X
  have HG := Lib.hid X
  clear X
  go_enter Try.func34, Try.ntmps34
  go_upto_region 1 with fail
  generalize (w.alloc (Obj.cells #[a1, a2] 26)).alloc (Obj.cells #[f1, f2, f3, f4, f5, f6] 31) = W0 at *
  have b0 := HB.out.c0
  have b1 := HB.out.c1
  have g0 := HG.out.c0
  have g1 := HG.out.c1
  have g2 := HG.out.c2
  have g3 := HG.out.c3
  have g4 := HG.out.c4
  have g5 := HG.out.c5
  go_wp2_with (go_at_call 61; refine (mayStand_any a1 a2 f1 f2 f3 f4 f5 f6 _ _ _ _).mono ?_; rintro e w1 ⟨rfl, rfl⟩)
  go_ret
  obtain ⟨h1, h2, h3⟩ := threeF_boxes w (W0.alloc (Obj.cells #[.int .i64 3, .int .i64 1] 3)) a1 a2 f1 f2 f3 f4 f5 f6 (.slice (some ⟨W0.heap.size, 0, none⟩) 2 2) (q0.alloc _)
  rw [World.size_alloc] at h1 h2
  exact ⟨_, rfl, h1, h2, h3⟩
set_option maxRecDepth 100000 in
set_option maxHeartbeats 2000000 in
theorem inSuc_any (a1 a2 f1 f2 f3 f4 f5 f6 : Value) (w : World) : Calls Try.prog 35 #[.agg #[a1, a2], .agg #[f1, f2, f3, f4, f5, f6]] w (MayPost a1 a2 f1 f2 f3 f4 f5 f6 w) := by
  have q0 := ((Q.refl w).alloc (Obj.cells #[a1, a2] 26)).alloc (Obj.cells #[f1, f2, f3, f4, f5, f6] 31)
  have HB := Lib.hid ((BoxT.new w a1 a2 26).q ((Q.refl _).alloc (Obj.cells #[f1, f2, f3, f4, f5, f6] 31)))
  have X := Box6.new (w.alloc (Obj.cells #[a1, a2] 26)) f1 f2 f3 f4 f5 f6 31
  rw [World.size_alloc] at X
  have HG := Lib.hid X
  clear X
  go_enter Try.func35, Try.ntmps35
  go_upto_region 1 with fail
  generalize (w.alloc (Obj.cells #[a1, a2] 26)).alloc (Obj.cells #[f1, f2, f3, f4, f5, f6] 31) = W0 at *
  have b0 := HB.out.c0
  have b1 := HB.out.c1
  have g0 := HG.out.c0
  have g1 := HG.out.c1
  have g2 := HG.out.c2
  have g3 := HG.out.c3
  have g4 := HG.out.c4
  have g5 := HG.out.c5
  go_wp2_with (go_at_call 61; refine (mayStand_any a1 a2 f1 f2 f3 f4 f5 f6 _ _ _ _).mono ?_; rintro e w1 ⟨rfl, rfl⟩)
  go_ret
  obtain ⟨h1, h2, h3⟩ := threeF_boxes w (W0.alloc (Obj.cells #[.int .i64 3, .int .i64 6, .int .i64 0] 3)) a1 a2 f1 f2 f3 f4 f5 f6 (.slice (some ⟨W0.heap.size, 0, none⟩) 3 3) (q0.alloc _)
  rw [World.size_alloc] at h1 h2
  exact ⟨_, rfl, h1, h2, h3⟩

set_option maxRecDepth 100000 in
set_option maxHeartbeats 4000000 in
/-- asked of a variable that is there, and ahead -/
theorem mayVar_any (B : Nat) (A S F Av Pa Ta : Option Addr) (n c ms d nr cr m cv mp cp mt ct : Nat) (b2 b3 : Value) (R : List Int) (ks : List (List Int)) (v id : Int) (t : Tm) (w : World) (hn : n = ks.length) (hk : Keys w w.heap.size A ks) (hkey : ∀ k ∈ ks, k.length ≤ 100000) (hnr : nr = R.length) (hR : Tr.Rds w w.heap.size F (cellsI R))
    (hmp : mp = m) (hmt : mt = m) (hB : BoxT w B (.slice A n c) (.slice S ms d)) (hG : Box6 w (B + 1) (.slice F nr cr) (.slice Av m cv) b2 b3 (.slice Pa mp cp) (.slice Ta mt ct)) (ht : termAt ks id = some t) (h2 : t.k = 2) (hs : 0 ≤ t.s ∧ t.s < (m : Int)) (hl : lessB R t.s v = true) :
    Calls Try.prog 81 #[.int .i64 v, .int .i64 id, .pointer (some ⟨B, 0, none⟩), .pointer (some ⟨B + 1, 0, none⟩), .pointer (some ⟨B + 1 + 1, 0, none⟩)] w fun e w' => e = .returned (.bool true) ∧ Q w w' := by
  subst hn hnr hmp hmt
  have HB := Lib.hid hB
  have HG := Lib.hid hG
  have HT := Lib.hid ht
  have C := Lib.hid (of_any A S _ c ms d ks id w rfl hk hkey)
  have HR := Lib.hid hR
  have HL := Lib.hid hl
  have HS := Lib.hid hs
  have H2 := Lib.hid h2
  clear hB hG hk hkey hR hl hs h2 ht
  go_enter Try.func81, Try.ntmps81
  have b0 := HB.out.c0
  have b1 := HB.out.c1
  go_upto_region 2 with (go_at_call 44; refine C.out.mono ?_; rintro e w2 ⟨At, nt, ct', rfl, rfl, _, q1⟩; rw [HT.out])
  try simp only [Option.getD_some, Option.isSome_some]
  have qt := q1.alloc (Obj.cells #[.int .i64 t.k, .int .i64 t.s, .int .i64 t.p, .slice At t.xs.length ct'] 60)
  have HGq := Lib.hid (HG.out.q qt)
  have HB4 := Lib.hid (Box4.new w2 (.int .i64 t.k) (.int .i64 t.s) (.int .i64 t.p) (.slice At t.xs.length ct') 60)
  have HQt := Lib.hid qt
  clear b0 b1 C q1 qt
  generalize w2.alloc (Obj.cells #[.int .i64 t.k, .int .i64 t.s, .int .i64 t.p, .slice At t.xs.length ct'] 60) = W2 at *
  have g0 := HGq.out.c0
  have g1 := HGq.out.c1
  have g2 := HGq.out.c2
  have g3 := HGq.out.c3
  have g4 := HGq.out.c4
  have g5 := HGq.out.c5
  have x0 := HB4.out.c0
  have x1 := HB4.out.c1
  rw [H2.out] at x0
  have CT : Hid (Calls Try.prog 45 #[.agg #[.slice F R.length cr, .slice Av mt cv, b2, b3, .slice Pa mt cp, .slice Ta mt ct], .int .i64 t.s] W2 fun e w' => e = .returned (.bool true) ∧ Q W2 w') := by
    have h := there12 mt (.slice F R.length cr) b2 b3 Av Pa Ta cv cp ct t.s W2
    rw [decide_eq_true HS.out.1, decide_eq_true HS.out.2] at h
    exact h
  have CL : Hid (∀ U, Q W2 U → Calls Try.prog 28 #[.slice F R.length cr, .int .i64 t.s, .int .i64 v] U fun e w' => e = .returned (.bool true) ∧ Q U w') := fun U q => by
    have h := less_any R F R.length cr t.s v U rfl (HR.out.q (HQt.out.trans q))
    rw [HL.out] at h
    exact h
  go_wp2_with (first
    | (go_at_call 45; refine CT.out.mono ?_; rintro e w3 ⟨rfl, q3⟩; have HQ3 := Lib.hid q3; have y0 := (HGq.out.q q3).c0; have y1 := (HB4.out.q q3).c1; clear g0 g1 g2 g3 g4 g5 x0 x1 q3)
    | (go_at_call 28; refine (CL.out _ HQ3.out).mono ?_; rintro e w4 ⟨rfl, q4⟩))
  go_ret
  exact ⟨rfl, HQt.out.trans (HQ3.out.trans q4)⟩

set_option maxRecDepth 100000 in
set_option maxHeartbeats 2000000 in
theorem search_none (A : Option Addr) (c : Nat) (x : Int) (w : World) : Calls Try.prog 77 #[.slice A 0 c, .int .i64 x] w fun e w' => e = .returned (.tuple #[.int .i64 0, .bool false]) ∧ Q w w' := by
  go_enter Try.func77, Try.ntmps77
  go_wp2_with fail
  go_loopw [7, 8] (fun i j wr => i = .int .i64 0 ∧ j = .int .i64 0 ∧ w = wr) (fun _ _ _ => 0)
  case atStart => exact ⟨rfl, rfl, rfl⟩
  case round =>
    obtain ⟨rfl, rfl, rfl⟩ := hrel
    go_wp2_with fail
    go_ret2
    exact ⟨rfl, Q.refl _⟩
set_option maxRecDepth 100000 in
set_option maxHeartbeats 2000000 in
theorem insert_none (base : Nat) (A D : Option Addr) (c cd : Nat) (x : Int) (w : World) (h : w.ownsRow base 3 1 (.slice A 0 c) 0 []) (hb : base ≤ w.heap.size) (hx : Tr.Rds w w.heap.size D (cellsI [x])) :
    Calls Try.prog 78 #[.slice A 0 c, .int .i64 0, .slice D 1 cd] w fun e w' => ∃ v, e = .returned v ∧ w'.ownsRow base 3 1 v 1 (cellsI [x]) ∧ w.grownBy w' (Value.slice A 0 c).ownBlock ∧ (v.ownBlock = (Value.slice A 0 c).ownBlock ∨ v.ownBlock = some w.heap.size) := by
  obtain ⟨i0, hi, hz0, hz1, hz2⟩ := info_parts Tr.intInfo
  have Hi := Lib.hid hi
  have Hz0 := Lib.hid hz0
  have Hz1 := Lib.hid hz1
  have Hz2 := Lib.hid hz2
  have HO := Lib.hid h
  have Hx := Lib.hid hx.src
  have Hb := Lib.hid hb
  clear hi hz0 hz1 hz2 h hx hb
  go_enter Try.func78, Try.ntmps78
  go_wp2_with (at_builtin; refine wpList_append_src _ rfl (.tmp 23) (.tmp 24) _ rfl base 3 i0 _ 1 8 Try.underlying24 Hi.out Hz0.out Hz1.out Hz2.out rfl (by omega) (.slice A 0 c) 0 [] rfl HO.out D 1 cd (cellsI [x]) rfl (by simp [cellsI]) Hx.out (cellsI_one _) (by unfold maxLen; omega) (by omega) Hb.out ?_; intro v' w5 own5 gr5 at5)
  go_ret
  exact ⟨_, rfl, own5, gr5, at5⟩
end Go.Proofs.Ytakfhlakdlmhjaa.Ig

namespace Go.Proofs.Ytakfhlakdlmhjaa.Ig
open Go.RowKit Kit Tr Uf
open Go.Proofs.Ytakfhlakdlmhjaa.Hs (Keys Ints BoxT layI)
open Go.Proofs.Ytakfhlakdlmhjaa.Tm (Tm termAt of_any Box4)
theorem grown_of_none {w w' : World} (h : w.grownBy w' none) (b : Nat) : w.grownBy w' (some b) := ⟨h.os, h.tape, h.output, h.size, fun i hi _ => h.block i hi (fun e => by cases e)⟩
theorem frz_block {w w' : World} {b i : Nat} (h : w'.heap[b]? = w.heap[b]?) : w'.frozen? ⟨b, i, none⟩ = w.frozen? ⟨b, i, none⟩ := by simp only [World.frozen?, h]
/-- what the example's row is laid with -/
def LayEx (gp e : Nat) (w w' : World) : Prop := ∃ A c D cd w2 w3 G, Q w w2 ∧ gp ≤ G ∧ G < e ∧ w2.grownBy w3 (some G) ∧ w3.grownBy w' (some gp) ∧ w'.cell? ⟨gp, 0, none⟩ = some (.slice A 0 c) ∧ w'.cell? ⟨gp, 1, none⟩ = some (.slice (some ⟨D, 0, none⟩) 1 cd) ∧ 1 ≤ cd ∧ OwnC w' D (cellsI [2]) ∧ gp < D ∧ (D < e ∨ w.heap.size ≤ D)
set_option maxRecDepth 100000 in
set_option maxHeartbeats 4000000 in
theorem lay_ex (gp e : Nat) (w : World) (h : Tab w gp e [[], []]) : Calls Try.prog 54 #[.pointer (some ⟨gp, 1, none⟩), .int .i64 2] w fun er w' => er = .returned (.bool true) ∧ LayEx gp e w w' := by
  obtain ⟨A0, c0', x0, f0, -⟩ := h.cell (y := 0) (by simp)
  obtain ⟨A1, c1', x1, f1, hr⟩ := h.cell (y := 1) (by simp)
  simp only [List.getElem_cons_zero, List.getElem_cons_succ, List.length_nil] at x0 x1 hr
  have HX0 := Lib.hid x0
  have HX1 := Lib.hid x1
  have HF1 := Lib.hid f1
  have HT := Lib.hid h
  have HR := Lib.hid hr
  clear x0 f0 f1 h hr
  go_enter Try.func54, Try.ntmps54
  go_upto_region 2 with (go_at_call 77; refine (search_none A1 c1' 2 _).mono ?_; rintro er w1 ⟨rfl, q1⟩; have HQ1 := Lib.hid q1; clear q1)
  have y1 := (HQ1.out.cell (p := ⟨gp, 1, none⟩) (Nat.lt_of_lt_of_le HT.out.lt HT.out.le)).trans x1
  have qa := HQ1.out.alloc (Obj.cells #[.int .i64 2] 3)
  have HQa := Lib.hid qa
  have HD : Hid (Tr.Rds (w1.alloc (Obj.cells #[.int .i64 2] 3)) (w1.alloc (Obj.cells #[.int .i64 2] 3)).heap.size (some ⟨w1.heap.size, 0, none⟩) (cellsI [2])) := Lib.hid (OwnC.rds (own_new12 w1 [.int .i64 2] 3))
  have HRq := Lib.hid (HR.out.q qa)
  have HTq := Lib.hid (HT.out.q qa)
  clear qa x1
  have CI : Hid (Calls Try.prog 78 #[.slice A1 0 c1', .int .i64 0, .slice (some ⟨w1.heap.size, 0, none⟩) 1 1] (w1.alloc (Obj.cells #[.int .i64 2] 3)) fun e w' => ∃ v, e = .returned v ∧ w'.ownsRow (gp + 1) 3 1 v 1 (cellsI [2]) ∧ (w1.alloc (Obj.cells #[.int .i64 2] 3)).grownBy w' (Value.slice A1 0 c1').ownBlock ∧ (v.ownBlock = (Value.slice A1 0 c1').ownBlock ∨ v.ownBlock = some (w1.alloc (Obj.cells #[.int .i64 2] 3)).heap.size)) := insert_none (gp + 1) A1 _ c1' 1 2 _ HRq.out.1 (by have := HTq.out.lt; have := HTq.out.le; omega) HD.out
  go_wp2_with fail
  generalize w1.alloc (Obj.cells #[.int .i64 2] 3) = W2 at *
  refine CI.out.mono ?_
  rintro er w3 ⟨v3, rfl, own3, gr3, at3⟩
  have hne3 : ∀ b, (Value.slice A1 0 c1').ownBlock = some b → gp < b := fun b hb => (HRq.out.1.lt b hb).1
  have hle := Nat.lt_of_lt_of_le HT.out.lt HT.out.le
  have hb3 : w3.heap[gp]? = W2.heap[gp]? := gr3.block gp (Nat.lt_of_lt_of_le HTq.out.lt HTq.out.le) (fun e => Nat.lt_irrefl _ (hne3 gp e.symm))
  have z1 : w3.cell? ⟨gp, 1, none⟩ = some (.slice A1 0 c1') := (World.cell?_of_block (a := ⟨gp, 1, none⟩) hb3).trans ((HQa.out.cell (p := ⟨gp, 1, none⟩) hle).trans HX1.out)
  have zf : w3.frozen? ⟨gp, 1, none⟩ = false := (frz_block hb3).trans ((frz_block (HQa.out.block gp hle)).trans HF1.out)
  have z0 : w3.cell? ⟨gp, 0, none⟩ = some (.slice A0 0 c0') := (World.cell?_of_block (a := ⟨gp, 0, none⟩) hb3).trans ((HQa.out.cell (p := ⟨gp, 0, none⟩) hle).trans HX0.out)
  obtain ⟨D, cd, rfl, hD1, hD2, hcd⟩ := row_some own3 (by omega)
  have HO3 := Lib.hid own3
  have HG3 := Lib.hid gr3
  have HA3 := Lib.hid at3
  have HZ0 := Lib.hid z0
  have HD1 := Lib.hid hD1
  have Hcd := Lib.hid hcd
  clear own3 gr3 at3 hne3 hb3 z0 hD1 hD2 hcd hle y1
  go_wp2_with fail
  go_ret
  refine ⟨rfl, A0, c0', D, cd, W2, w3, ?_⟩
  have hD := HD1.out
  have hs := setCell_grown w3 gp 1 (.slice (some ⟨D, 0, none⟩) 1 cd)
  have hw2 := HQa.out.size
  have hown : OwnC (w3.setCell ⟨gp, 1, none⟩ (.slice (some ⟨D, 0, none⟩) 1 cd)) D (cellsI [2]) := (OwnC.of_row HO3.out).grown hs (by intro e; injection e with e; omega)
  have hc0 : (w3.setCell ⟨gp, 1, none⟩ (.slice (some ⟨D, 0, none⟩) 1 cd)).cell? ⟨gp, 0, none⟩ = some (.slice A0 0 c0') := Tr.setCell_ne (by omega) HZ0.out
  have hc1 : (w3.setCell ⟨gp, 1, none⟩ (.slice (some ⟨D, 0, none⟩) 1 cd)).cell? ⟨gp, 1, none⟩ = some (.slice (some ⟨D, 0, none⟩) 1 cd) := Tr.setCell_eq z1
  have hlt := HT.out.lt
  cases A1 with
  | none => exact ⟨gp, HQa.out, Nat.le_refl _, hlt, grown_of_none HG3.out gp, hs, hc0, hc1, Hcd.out, hown, by omega, .inr (by
      rcases HA3.out with h | h
      · simp [Value.ownBlock] at h
      · have : D = W2.heap.size := by simpa [Value.ownBlock] using h
        omega)⟩
  | some ad =>
    have hGe := HRq.out.2 ad.block rfl
    have hGg := (HRq.out.1.lt ad.block rfl).1
    exact ⟨ad.block, HQa.out, by omega, hGe, HG3.out, hs, hc0, hc1, Hcd.out, hown, by omega, by
      rcases HA3.out with h | h
      · have : D = ad.block := by simpa [Value.ownBlock] using h
        exact .inl (by omega)
      · have : D = W2.heap.size := by simpa [Value.ownBlock] using h
        exact .inr (by omega)⟩
end Go.Proofs.Ytakfhlakdlmhjaa.Ig

namespace Go.Proofs.Ytakfhlakdlmhjaa.Tr
open Go.RowKit Kit

end Go.Proofs.Ytakfhlakdlmhjaa.Tr

namespace Go.Proofs.Ytakfhlakdlmhjaa.Uf
open Kit Tr

/-- the first one of a joined class, and the one that was first of the other part -/
def lo (R V : List Int) (a b : Nat) : Nat := if lessB R (fst V b) (fst V a) = true then fst V b else fst V a
def hi (R V : List Int) (a b : Nat) : Nat := if lessB R (fst V b) (fst V a) = true then fst V a else fst V b
end Go.Proofs.Ytakfhlakdlmhjaa.Uf

namespace Go.Proofs.Ytakfhlakdlmhjaa.Ig
open Go.RowKit Kit Tr Uf
open Go.Proofs.Ytakfhlakdlmhjaa.Hs (Keys Ints BoxT KeysP IntsP layI)
open Go.Proofs.Ytakfhlakdlmhjaa.St (cellsQ cellsQ_append cellsQ_len pairInfo PI)
section
variable {w W W' : World} {R : List Int} {P T : List (List Int)} {a1 a2 f1 f2 f3 f4 f5 f6 u1 u2 u3 : Value} {np nt g0 gp ep gs es O Br : Nat}
theorem boxT_far {B g : Nat} {a b : Value} (h : BoxT W B a b) (hg : W.grownBy W' (some g)) (hne : g ≠ B) : BoxT W' B a b := by
  have hb : W'.heap[B]? = W.heap[B]? := hg.block B h.lt (fun e => by injection e with e; exact hne e.symm)
  have hc : ∀ i, W'.cell? ⟨B, i, none⟩ = W.cell? ⟨B, i, none⟩ := fun i => World.cell?_of_block (a := ⟨B, i, none⟩) hb
  exact ⟨(hc 0).trans h.c0, (hc 1).trans h.c1, Nat.lt_of_lt_of_le h.lt hg.size⟩
theorem ne_some {a b : Nat} (h : a ≠ b) : (some a : Option Nat) ≠ some b := fun e => by injection e with e; exact h e
end
theorem far_cell {U V : World} {B : Nat} {p : Addr} {v : Value} (gr : U.grownBy V (some B)) (h : U.cell? p = some v) (hne : p.block ≠ B) (hlt : p.block < U.heap.size) : V.cell? p = some v := by
  have := gr.block p.block hlt (fun e => by injection e with e; exact hne e)
  simp only [World.cell?, this] at h ⊢
  exact h
end Go.Proofs.Ytakfhlakdlmhjaa.Ig

namespace Go.Proofs.Ytakfhlakdlmhjaa.Ig
open Go.RowKit Kit Tr Uf
open Go.Proofs.Ytakfhlakdlmhjaa.Hs (Keys Ints BoxT layI KeysP IntsP)
open Go.Proofs.Ytakfhlakdlmhjaa.Tm (Tm termAt of_any Box4)
open Go.Proofs.Ytakfhlakdlmhjaa.St (cellsQ cellsQ_append cellsQ_len pairInfo PI)
structure AddB (w W : World) (R : List Int) (c : Cells) (P T : List (List Int)) (a1 a2 f1 f2 f3 f4 f5 f6 : Value) (g0 g1 g2 g3 gp gs O Br : Nat) : Prop where
  ba : BoxT W w.heap.size a1 a2
  bg : Box6 W (w.heap.size + 1) f1 f2 f3 f4 f5 f6
  res : BoxW W Br (.slice none 0 0) (.slice none 0 0) (.slice none 0 0) (.slice none 0 0) (.slice none 0 0) (.slice none 0 0)
  out : BoxW W O (.slice (some ⟨g0, 0, none⟩) R.length R.length) (.slice (some ⟨g1, 0, none⟩) c.V.length c.V.length) (.slice (some ⟨g2, 0, none⟩) c.N.length c.N.length) (.slice (some ⟨g3, 0, none⟩) c.M.length c.M.length) (.slice (some ⟨gp, 0, none⟩) P.length P.length) (.slice (some ⟨gs, 0, none⟩) T.length T.length)
  q : Q w W
section
variable {w W W' : World} {R : List Int} {c : Cells} {P T : List (List Int)} {a1 a2 f1 f2 f3 f4 f5 f6 : Value} {g0 g1 g2 g3 gp gs O Br : Nat}
theorem AddB.next (h : AddB w W R c P T a1 a2 f1 f2 f3 f4 f5 f6 g0 g1 g2 g3 gp gs O Br) (q : Q W W') : AddB w W' R c P T a1 a2 f1 f2 f3 f4 f5 f6 g0 g1 g2 g3 gp gs O Br :=
  ⟨h.ba.q q, h.bg.q q, h.res.q q, h.out.q q, h.q.trans q⟩
theorem AddB.far {G : Nat} (h : AddB w W R c P T a1 a2 f1 f2 f3 f4 f5 f6 g0 g1 g2 g3 gp gs O Br) (gr : W.grownBy W' (some G)) (hB : w.heap.size + 3 ≤ G) (hO : G ≠ O) (hr : Br = w.heap.size + 2) : AddB w W' R c P T a1 a2 f1 f2 f3 f4 f5 f6 g0 g1 g2 g3 gp gs O Br :=
  ⟨boxT_far h.ba gr (by omega), h.bg.grown gr (by omega), h.res.grown gr (by omega), h.out.grown gr (by omega), grown_q gr h.q (by omega)⟩
end
/-- behind the row that was laid -/
structure AddL (w W : World) (R : List Int) (c : Cells) (P T : List (List Int)) (g0 g1 g2 g3 gp gs es O : Nat) : Prop where
  r : OwnC W g0 (cellsI R)
  v : OwnC W g1 (cellsI c.V)
  n : OwnC W g2 (cellsP c.N)
  m : OwnC W g3 (cellsI c.M)
  t : Tab W gs es T
  p : KeysP W (fun b => w.heap.size + 3 ≤ b) (some ⟨gp, 0, none⟩) [[], [2]]
  o : w.heap.size + 3 ≤ g0 ∧ g0 < g1 ∧ g1 < g2 ∧ g2 < g3 ∧ g3 < gp ∧ gp < gs ∧ es ≤ O
theorem addL_of {w W0 w4 w5 : World} {R : List Int} {c : Cells} {P T : List (List Int)} {g0 g1 g2 g3 gp ep gs es O : Nat} (h : GOut W0 w4 R c P T g0 g1 g2 g3 gp ep gs es) (_hP : P = [[], []]) (hz : W0.heap.size = w.heap.size + 3) (he : es ≤ O) (l : LayEx gp ep w4 w5) : AddL w w5 R c P T g0 g1 g2 g3 gp gs es O := by
  obtain ⟨A, cc, D, cd, w2, w3, G, q2, hG1, hG2, gr3, gr5, c0, c1, hcd, hown, hgD, hDe⟩ := l
  obtain ⟨r, v, n, m, p, t, o0, o1, o2, o3, o4, o5, q⟩ := h.next q2
  have hp := p.lt
  have own2 : ∀ {g : Nat} {cs : List Value}, OwnC w2 g cs → g < gp → OwnC w5 g cs := fun h hg => (h.grown gr3 (ne_some (by omega))).grown gr5 (ne_some (by omega))
  refine ⟨own2 r (by omega), own2 v (by omega), own2 n (by omega), own2 m (by omega), (t.far gr3 (.inl (by omega))).far gr5 (.inl (by omega)), fun _ => ⟨_, rfl, by show w.heap.size + 3 ≤ gp; omega, ?_, fun i k hi => ?_⟩, by omega⟩
  · have := p.le
    have := gr3.size
    have := gr5.size
    show gp < w5.heap.size
    omega
  · match i, hi with
    | 0, hi =>
      obtain rfl : [] = k := by simpa using hi
      exact ⟨A, cc, Nat.zero_le _, by rw [Tr.add_zero_head]; exact c0, fun h => absurd h (by simp)⟩
    | 1, hi =>
      obtain rfl : [2] = k := by simpa using hi
      exact ⟨some ⟨D, 0, none⟩, cd, hcd, by rw [Tr.add_zero_head]; exact c1, own_ints12 (l := [2]) hown (by show w.heap.size + 3 ≤ D; omega)⟩
    | i + 2, hi => simp at hi
theorem AddL.next {w W W' : World} {R : List Int} {c : Cells} {P T : List (List Int)} {g0 g1 g2 g3 gp gs es O : Nat} (h : AddL w W R c P T g0 g1 g2 g3 gp gs es O) (q : Q W W') : AddL w W' R c P T g0 g1 g2 g3 gp gs es O :=
  ⟨h.r.q q, h.v.q q, h.n.q q, h.m.q q, h.t.q q, h.p.q q, h.o⟩
theorem AddL.grp {w W : World} {R : List Int} {c : Cells} {P T : List (List Int)} {g0 g1 g2 g3 gp gs es O : Nat} (h : AddL w W R c P T g0 g1 g2 g3 gp gs es O) (hP : P.length = 2) : GRP W (fun b => w.heap.size + 3 ≤ b) R c [[], [2]] T (some ⟨g0, 0, none⟩) (some ⟨g1, 0, none⟩) (some ⟨g2, 0, none⟩) (some ⟨g3, 0, none⟩) (some ⟨gp, 0, none⟩) (some ⟨gs, 0, none⟩) R.length c.V.length c.N.length c.M.length P.length T.length := by
  have ho := h.o
  have hk : ∀ b, w.heap.size + 3 ≤ b → (fun b => w.heap.size + 3 ≤ b) b := fun b h => h
  exact ⟨.of_own h.r (hk _ (by omega)), .of_own h.v (hk _ (by omega)), .of_own h.n (hk _ (by omega)), .of_own h.m (hk _ (by omega)), h.p, h.t.p (fun b h1 _ => hk b (by omega)), Nat.le_refl _, Nat.le_refl _, Nat.le_refl _, Nat.le_refl _, by rw [hP]; exact Nat.le_refl _, Nat.le_refl _⟩

/-- the example's graph: two variables, each alone -/
def c2 : Cells := ⟨[0, 1], [(-1, 0), (-1, 0)], []⟩
theorem cl2 : Cl [] c2.V := cl_of (by decide)
theorem okS_two : OkS twoK := by
  refine ⟨Hs.rdF_dist rfl, by decide, by decide, fun id t ht h2 => ?_⟩
  cases hp : Tm.isPl id twoK.length with
  | false => rw [Tm.termAt_out hp] at ht; cases ht
  | true =>
    obtain ⟨h0, h4⟩ := (Tm.isPl_iff _ _).1 hp
    have h5 : (twoK.length : Int) = 4 := rfl
    have : id = 0 ∨ id = 1 ∨ id = 2 ∨ id = 3 := by omega
    rcases this with rfl | rfl | rfl | rfl
    · have e : termAt twoK 0 = some (Tm.ofKey [0, 0, 0]) := rfl
      rw [e] at ht; injection ht with ht; subst ht; decide
    · have e : termAt twoK 1 = some (Tm.ofKey [1, 0, 0]) := rfl
      rw [e] at ht; injection ht with ht; subst ht; decide
    · have e : termAt twoK 2 = some (Tm.ofKey [2, 0, 0]) := rfl
      rw [e] at ht; injection ht with ht; subst ht; decide
    · have e : termAt twoK 3 = some (Tm.ofKey [2, 1, 0]) := rfl
      rw [e] at ht; injection ht with ht; subst ht; decide
theorem lay_two : (layI twoK).length = 8 := by rw [Hs.layI_length]; exact size_two
set_option maxRecDepth 100000 in
set_option maxHeartbeats 8000000 in
theorem addPre_ex (R : List Int) (c : Cells) (P T : List (List Int)) (A S F Av D E Pa Ta : Option Addr) (cr k1 k2 k3 kp kt : Nat) (w : World) (hR0 : R = []) (hc0 : c = c2) (hP0 : P = [[], []]) (hT0 : T = [[], []]) (hk : Keys w w.heap.size A twoK) (hS : Ints w w.heap.size S (layI twoK))
    (hG : GRP w (fun _ => True) R c P T F Av D E Pa Ta cr k1 k2 k3 kp kt) :
    Calls Try.prog 30 #[.agg #[.slice A 4 4, .slice S 8 8], .agg #[.slice F R.length cr, .slice Av c.V.length k1, .slice D c.N.length k2, .slice E c.M.length k3, .slice Pa P.length kp, .slice Ta T.length kt], .int .i64 2, .int .i64 1] w fun e w' => ∃ F A D E Pa Ta cr k1 k2 k3 kp kt Al cl, e = .returned (.tuple #[gvP R c [[], [2]] T F A D E Pa Ta cr k1 k2 k3 kp kt, .slice Al 0 cl, .bool true]) ∧ GRP w' (fun b => w.heap.size ≤ b) R c [[], [2]] T F A D E Pa Ta cr k1 k2 k3 kp kt ∧ Q w w' := by
  have q0 := (((Q.refl w).alloc (Obj.cells #[.slice A 4 4, .slice S 8 8] 26)).alloc (Obj.cells #[.slice F R.length cr, .slice Av c.V.length k1, .slice D c.N.length k2, .slice E c.M.length k3, .slice Pa P.length kp, .slice Ta T.length kt] 31)).alloc (Obj.cells #[.slice none 0 0, .slice none 0 0, .slice none 0 0, .slice none 0 0, .slice none 0 0, .slice none 0 0] 31)
  have HBa := Lib.hid ((BoxT.new w (.slice A 4 4) (.slice S 8 8) 26).q (((Q.refl _).alloc (Obj.cells #[.slice F R.length cr, .slice Av c.V.length k1, .slice D c.N.length k2, .slice E c.M.length k3, .slice Pa P.length kp, .slice Ta T.length kt] 31)).alloc (Obj.cells #[.slice none 0 0, .slice none 0 0, .slice none 0 0, .slice none 0 0, .slice none 0 0, .slice none 0 0] 31)))
  have X := (Box6.new (w.alloc (Obj.cells #[.slice A 4 4, .slice S 8 8] 26)) (.slice F R.length cr) (.slice Av c.V.length k1) (.slice D c.N.length k2) (.slice E c.M.length k3) (.slice Pa P.length kp) (.slice Ta T.length kt) 31).q ((Q.refl _).alloc (Obj.cells #[.slice none 0 0, .slice none 0 0, .slice none 0 0, .slice none 0 0, .slice none 0 0, .slice none 0 0] 31))
  rw [World.size_alloc] at X
  have HBg := Lib.hid X
  have X2 := BoxW.new ((w.alloc (Obj.cells #[.slice A 4 4, .slice S 8 8] 26)).alloc (Obj.cells #[.slice F R.length cr, .slice Av c.V.length k1, .slice D c.N.length k2, .slice E c.M.length k3, .slice Pa P.length kp, .slice Ta T.length kt] 31)) (.slice none 0 0) (.slice none 0 0) (.slice none 0 0) (.slice none 0 0) (.slice none 0 0) (.slice none 0 0) 31
  rw [World.size_alloc, World.size_alloc] at X2
  have HX := Lib.hid X2
  have HZ : Hid ((((w.alloc (Obj.cells #[.slice A 4 4, .slice S 8 8] 26)).alloc (Obj.cells #[.slice F R.length cr, .slice Av c.V.length k1, .slice D c.N.length k2, .slice E c.M.length k3, .slice Pa P.length kp, .slice Ta T.length kt] 31)).alloc (Obj.cells #[.slice none 0 0, .slice none 0 0, .slice none 0 0, .slice none 0 0, .slice none 0 0, .slice none 0 0] 31)).heap.size = w.heap.size + 3) := by unfold Hid; simp
  have HG := Lib.hid (hG.q q0)
  have Hk := Lib.hid ((hk.q (Nat.le_refl _) q0).more q0.size)
  have HQ0 := Lib.hid q0
  have HT00 := Lib.hid hG.t.keys
  have Hk0 : Hid (Keys w w.heap.size A twoK ∧ Ints w w.heap.size S (layI twoK)) := Lib.hid ⟨hk, hS⟩
  have HGd := Lib.hid hG
  have HR0 := Lib.hid hR0
  have HC0 := Lib.hid hc0
  have HP0 := Lib.hid hP0
  have HT0 := Lib.hid hT0
  obtain ⟨Br, hBr⟩ : ∃ Br, Br = w.heap.size + 1 + 1 := ⟨_, rfl⟩
  rw [← hBr] at HX
  have HBr : Hid (Br = w.heap.size + 2) := hBr
  have HPl : Hid (P.length = 2 ∧ T.length = 2 ∧ c.V.length = 2 ∧ c.N.length = 2 ∧ c.M.length = 0 ∧ R.length = 0) := by unfold Hid; rw [hR0, hc0, hP0, hT0]; exact ⟨rfl, rfl, rfl, rfl, rfl, rfl⟩
  have HSm : Hid ((∀ k ∈ P, k.length ≤ 1000000) ∧ (∀ k ∈ T, k.length ≤ 1000000)) := by unfold Hid; rw [hP0, hT0]; decide
  clear X X2 q0 hG hk hS hR0 hc0 hP0 hT0
  go_enter Try.func30, Try.ntmps30
  go_upto_region 1 with fail
  rw [← hBr]
  clear hBr
  generalize ((w.alloc (Obj.cells #[.slice A 4 4, .slice S 8 8] 26)).alloc (Obj.cells #[.slice F R.length cr, .slice Av c.V.length k1, .slice D c.N.length k2, .slice E c.M.length k3, .slice Pa P.length kp, .slice Ta T.length kt] 31)).alloc (Obj.cells #[.slice none 0 0, .slice none 0 0, .slice none 0 0, .slice none 0 0, .slice none 0 0, .slice none 0 0] 31) = W0 at *
  have b0 := HBg.out.c0
  have b1 := HBg.out.c1
  have b2 := HBg.out.c2
  have b3 := HBg.out.c3
  have b4 := HBg.out.c4
  have b5 := HBg.out.c5
  have CC := Lib.hid (copyOf12 R c P T F Av D E Pa Ta _ cr _ k1 _ k2 _ k3 _ kp _ kt W0 rfl rfl rfl rfl rfl rfl HG.out.r.rds HG.out.rd HG.out.p.keys HG.out.t.keys (by have := HPl.out; omega) ⟨by have := HPl.out; omega, by have := HPl.out; omega, by have := HPl.out; omega⟩ (by have := HPl.out; omega) (by have := HPl.out; omega) HSm.out.1 HSm.out.2)
  go_upto_region 2 with (go_at_call 26; refine CC.out.mono ?_; rintro e w1 ⟨g0, g1, g2, g3, gp, ep, gs, es, rfl, hG⟩; have HGo := Lib.hid hG; unfold gVal; clear hG)
  have q2 := (Q.refl w1).alloc (Obj.cells #[(.slice (some ⟨g0, 0, none⟩) R.length R.length), (.slice (some ⟨g1, 0, none⟩) c.V.length c.V.length), (.slice (some ⟨g2, 0, none⟩) c.N.length c.N.length), (.slice (some ⟨g3, 0, none⟩) c.M.length c.M.length), (.slice (some ⟨gp, 0, none⟩) P.length P.length), (.slice (some ⟨gs, 0, none⟩) T.length T.length)] 31)
  have HA2 : Hid (AddB w (w1.alloc (Obj.cells #[(.slice (some ⟨g0, 0, none⟩) R.length R.length), (.slice (some ⟨g1, 0, none⟩) c.V.length c.V.length), (.slice (some ⟨g2, 0, none⟩) c.N.length c.N.length), (.slice (some ⟨g3, 0, none⟩) c.M.length c.M.length), (.slice (some ⟨gp, 0, none⟩) P.length P.length), (.slice (some ⟨gs, 0, none⟩) T.length T.length)] 31)) R c P T (.slice A 4 4) (.slice S 8 8) (.slice F R.length cr) (.slice Av c.V.length k1) (.slice D c.N.length k2) (.slice E c.M.length k3) (.slice Pa P.length kp) (.slice Ta T.length kt) g0 g1 g2 g3 gp gs w1.heap.size Br) :=
    Lib.hid ⟨(HBa.out.q HGo.out.q).q q2, (HBg.out.q HGo.out.q).q q2, (HX.out.q HGo.out.q).q q2, BoxW.new w1 (.slice (some ⟨g0, 0, none⟩) R.length R.length) (.slice (some ⟨g1, 0, none⟩) c.V.length c.V.length) (.slice (some ⟨g2, 0, none⟩) c.N.length c.N.length) (.slice (some ⟨g3, 0, none⟩) c.M.length c.M.length) (.slice (some ⟨gp, 0, none⟩) P.length P.length) (.slice (some ⟨gs, 0, none⟩) T.length T.length) 31, (HQ0.out.trans HGo.out.q).trans q2⟩
  have HG2 := Lib.hid (HGo.out.next q2)
  have HEs : Hid (es ≤ w1.heap.size) := HGo.out.t.le
  clear b0 b1 b2 b3 b4 b5 CC q2 HGo HBa HBg HX
  generalize w1.alloc (Obj.cells #[(.slice (some ⟨g0, 0, none⟩) R.length R.length), (.slice (some ⟨g1, 0, none⟩) c.V.length c.V.length), (.slice (some ⟨g2, 0, none⟩) c.N.length c.N.length), (.slice (some ⟨g3, 0, none⟩) c.M.length c.M.length), (.slice (some ⟨gp, 0, none⟩) P.length P.length), (.slice (some ⟨gs, 0, none⟩) T.length T.length)] 31) = W1 at *
  generalize w1.heap.size = O at *
  have a0 := HA2.out.ba.c0
  have a1 := HA2.out.ba.c1
  have b0 := HA2.out.bg.c0
  have b1 := HA2.out.bg.c1
  have b2 := HA2.out.bg.c2
  have b3 := HA2.out.bg.c3
  have b4 := HA2.out.bg.c4
  have b5 := HA2.out.bg.c5
  have jP : (1 : Int) < (P.length : Int) := by have := HPl.out.1; omega
  go_wp2_with (go_at_call 34; refine (inPre_any _ _ _ _ _ _ _ _ _).mono ?_; rintro e w2 ⟨B, rfl, hb1, hb2, q2⟩; have HB1 := Lib.hid hb1; have HB2 := Lib.hid hb2; have HA3 := Lib.hid (HA2.out.next q2); have HG3 := Lib.hid (HG2.out.next q2); clear hb1 hb2 q2 a0 a1 b0 b1 b2 b3 b4 b5; unfold mayFn)
  have HQw : Hid (Q w w2) := Lib.hid HA3.out.q
  have HQ02 : Hid (Q W0 w2) := Lib.hid HG3.out.q
  have hm1 : P.length = c.V.length := by have := HPl.out; omega
  have hm2 : T.length = c.V.length := by have := HPl.out; omega
  have ht : termAt twoK 2 = some ⟨2, 0, 0, []⟩ := rfl
  have hl : lessB R 0 1 = true := by rw [HR0.out]; decide
  have CM := Lib.hid (mayVar_any B A S F Av Pa Ta 4 4 8 8 R.length cr c.V.length k1 P.length kp T.length kt (.slice D c.N.length k2) (.slice E c.M.length k3) R twoK 1 2 ⟨2, 0, 0, []⟩ w2 rfl ((Hk.out.q (Nat.le_refl _) HQ02.out).more HQ02.out.size) (by decide) rfl (HG.out.r.rds.q HQ02.out) hm1 hm2 HB1.out HB2.out ht rfl ⟨by decide, by have := HPl.out; show (0 : Int) < _; omega⟩ hl)
  clear hm1 hm2 ht hl
  refine CM.out.mono ?_
  rintro e w3 ⟨rfl, q3⟩
  have HA4 := Lib.hid (HA3.out.next q3)
  have HG4 := Lib.hid (HG3.out.next q3)
  have HQ03 : Hid (Q W0 w3) := Lib.hid HG4.out.q
  clear q3
  have o4 := HA4.out.out.c.c4
  have hTab : Tab w3 gp ep [[], []] := by rw [← HP0.out]; exact HG4.out.p
  have CY := Lib.hid (lay_ex gp ep w3 hTab)
  clear hTab
  go_upto_region 4 with (go_at_call 54; refine CY.out.mono ?_; rintro e w4 ⟨rfl, hl⟩; have HLy := Lib.hid hl; clear hl)
  clear o4 CY CM
  have HL5 := Lib.hid (addL_of HG4.out HP0.out HZ.out HEs.out HLy.out)
  have HA5 : Hid (AddB w w4 R c P T (.slice A 4 4) (.slice S 8 8) (.slice F R.length cr) (.slice Av c.V.length k1) (.slice D c.N.length k2) (.slice E c.M.length k3) (.slice Pa P.length kp) (.slice Ta T.length kt) g0 g1 g2 g3 gp gs O Br) := by
    obtain ⟨A', cc, D', cd, u2, u3, G, qu, hG1, hG2, gr3, gr5, _⟩ := HLy.out
    have h1 := HG4.out.o0
    have h2 := HG4.out.o1
    have h3 := HG4.out.o2
    have h4 := HG4.out.o3
    have h5 := HG4.out.o4
    have h6 := HG4.out.o5
    have h7 := HG4.out.t.lt
    have h8 := HEs.out
    have h9 := HZ.out
    have h10 := HG4.out.p.lt
    exact ((HA4.out.next qu).far gr3 (by omega) (by omega) HBr.out).far gr5 (by omega) (by omega) HBr.out
  have HQ4 : Hid (Q w w4) := Lib.hid HA5.out.q
  obtain ⟨ta, eta, htb, At, ct, hct, ht0, hti⟩ := HT00.out.at_ (k := 1) (by have := HPl.out; omega)
  have hte : T[1]'(by have := HPl.out; omega) = [] := by simp [HT0.out]
  have htl : (T[1]'(by have := HPl.out; omega)).length = 0 := by rw [hte]; rfl
  rw [htl, show ta.add 1 = ⟨ta.block, ta.off + 1, none⟩ by simp [Addr.add]] at ht0
  subst eta
  have Htb := Lib.hid htb
  have Ht0 := Lib.hid ht0
  clear hct ht0 hti hte htl htb
  have ALL : Hid (∀ U, Q w4 U → U.cell? ⟨w.heap.size, 0, none⟩ = some (.slice A 4 4) ∧ U.cell? ⟨w.heap.size, 1, none⟩ = some (.slice S 8 8) ∧ U.cell? ⟨O, 0, none⟩ = some (.slice (some ⟨g0, 0, none⟩) R.length R.length) ∧ U.cell? ⟨O, 1, none⟩ = some (.slice (some ⟨g1, 0, none⟩) c.V.length c.V.length) ∧ U.cell? ⟨O, 2, none⟩ = some (.slice (some ⟨g2, 0, none⟩) c.N.length c.N.length) ∧ U.cell? ⟨O, 3, none⟩ = some (.slice (some ⟨g3, 0, none⟩) c.M.length c.M.length) ∧ U.cell? ⟨O, 4, none⟩ = some (.slice (some ⟨gp, 0, none⟩) P.length P.length) ∧ U.cell? ⟨O, 5, none⟩ = some (.slice (some ⟨gs, 0, none⟩) T.length T.length) ∧ U.cell? ⟨w.heap.size + 1, 0, none⟩ = some (.slice F R.length cr) ∧ U.cell? ⟨w.heap.size + 1, 1, none⟩ = some (.slice Av c.V.length k1) ∧ U.cell? ⟨w.heap.size + 1, 2, none⟩ = some (.slice D c.N.length k2) ∧ U.cell? ⟨w.heap.size + 1, 3, none⟩ = some (.slice E c.M.length k3) ∧ U.cell? ⟨w.heap.size + 1, 4, none⟩ = some (.slice Pa P.length kp) ∧ U.cell? ⟨w.heap.size + 1, 5, none⟩ = some (.slice (some ta) T.length kt) ∧ U.cell? ⟨ta.block, ta.off + 1, none⟩ = some (.slice At 0 ct)) := fun U q => by
    have h := HA5.out.next q
    exact ⟨h.ba.c0, h.ba.c1, h.out.c.c0, h.out.c.c1, h.out.c.c2, h.out.c.c3, h.out.c.c4, h.out.c.c5, h.bg.c0, h.bg.c1, h.bg.c2, h.bg.c3, h.bg.c4, h.bg.c5, ((HQ4.out.trans q).cell (p := ⟨ta.block, ta.off + 1, none⟩) Htb.out).trans Ht0.out⟩
  have ALS : Hid (∀ U V, Q w4 U → U.grownBy V (some Br) → V.cell? ⟨w.heap.size, 0, none⟩ = some (.slice A 4 4) ∧ V.cell? ⟨w.heap.size, 1, none⟩ = some (.slice S 8 8) ∧ V.cell? ⟨O, 0, none⟩ = some (.slice (some ⟨g0, 0, none⟩) R.length R.length) ∧ V.cell? ⟨O, 1, none⟩ = some (.slice (some ⟨g1, 0, none⟩) c.V.length c.V.length) ∧ V.cell? ⟨O, 2, none⟩ = some (.slice (some ⟨g2, 0, none⟩) c.N.length c.N.length) ∧ V.cell? ⟨O, 3, none⟩ = some (.slice (some ⟨g3, 0, none⟩) c.M.length c.M.length) ∧ V.cell? ⟨O, 4, none⟩ = some (.slice (some ⟨gp, 0, none⟩) P.length P.length) ∧ V.cell? ⟨O, 5, none⟩ = some (.slice (some ⟨gs, 0, none⟩) T.length T.length) ∧ V.cell? ⟨w.heap.size + 1, 0, none⟩ = some (.slice F R.length cr) ∧ V.cell? ⟨w.heap.size + 1, 1, none⟩ = some (.slice Av c.V.length k1) ∧ V.cell? ⟨w.heap.size + 1, 2, none⟩ = some (.slice D c.N.length k2) ∧ V.cell? ⟨w.heap.size + 1, 3, none⟩ = some (.slice E c.M.length k3) ∧ V.cell? ⟨w.heap.size + 1, 4, none⟩ = some (.slice Pa P.length kp) ∧ V.cell? ⟨w.heap.size + 1, 5, none⟩ = some (.slice (some ta) T.length kt) ∧ V.cell? ⟨ta.block, ta.off + 1, none⟩ = some (.slice At 0 ct)) := fun U V q gr => by
    have hz := HBr.out
    have hs := q.size
    have hO := HA5.out.out.c.lt
    have hOb : w.heap.size + 3 ≤ O := by have := HG4.out.o0; have := HZ.out; have := HG4.out.t.lt; have := HG4.out.p.lt; have := HG4.out.o5; have := HG4.out.o4; have := HG4.out.o3; have := HG4.out.o2; have := HG4.out.o1; have := HEs.out; omega
    obtain ⟨e0, e1, e2, e3, e4, e5, e6, e7, e8, e9, e10, e11, e12, e13, e14⟩ := ALL.out U q
    have htb := Htb.out
    exact ⟨far_cell gr e0 (by show w.heap.size ≠ Br; omega) (by show w.heap.size < _; omega), far_cell gr e1 (by show w.heap.size ≠ Br; omega) (by show w.heap.size < _; omega), far_cell gr e2 (by show O ≠ Br; omega) (by show O < _; omega), far_cell gr e3 (by show O ≠ Br; omega) (by show O < _; omega), far_cell gr e4 (by show O ≠ Br; omega) (by show O < _; omega), far_cell gr e5 (by show O ≠ Br; omega) (by show O < _; omega), far_cell gr e6 (by show O ≠ Br; omega) (by show O < _; omega), far_cell gr e7 (by show O ≠ Br; omega) (by show O < _; omega), far_cell gr e8 (by show w.heap.size + 1 ≠ Br; omega) (by show w.heap.size + 1 < _; omega), far_cell gr e9 (by show w.heap.size + 1 ≠ Br; omega) (by show w.heap.size + 1 < _; omega), far_cell gr e10 (by show w.heap.size + 1 ≠ Br; omega) (by show w.heap.size + 1 < _; omega), far_cell gr e11 (by show w.heap.size + 1 ≠ Br; omega) (by show w.heap.size + 1 < _; omega), far_cell gr e12 (by show w.heap.size + 1 ≠ Br; omega) (by show w.heap.size + 1 < _; omega), far_cell gr e13 (by show w.heap.size + 1 ≠ Br; omega) (by show w.heap.size + 1 < _; omega), far_cell gr e14 (by show ta.block ≠ Br; omega) (by show ta.block < _; omega)⟩
  have CA : Hid (∀ U, Q w4 U → Calls Try.prog 56 #[.agg #[.slice A 4 4, .slice S 8 8], .agg #[.slice F R.length cr, .slice Av c.V.length k1, .slice D c.N.length k2, .slice E c.M.length k3, .slice Pa P.length kp, .slice (some ta) T.length kt], .int .i64 2, .slice At 0 ct] U fun e w' => ∃ v, e = .returned v ∧ w'.ownsRow U.heap.size 50 2 v 0 [] ∧ Q U w') := fun U q => by
    have qq := HQ4.out.trans q
    exact allAbove12 R c.V A S Av D E Pa (some ta) At c.N c.M 4 4 8 8 c.V.length k1 c.N.length k2 c.M.length k3 kp kt P.length T.length 0 ct (.slice F R.length cr) twoK [] 2 U rfl lay_two.symm ((Hk0.out.1.q (Nat.le_refl _) qq).more qq.size) ((Hk0.out.2.q (Nat.le_refl _) qq).more qq.size) okS_two rfl (HGd.out.rd.q qq) rfl rfl (by rw [HC0.out, HR0.out]; exact cl2) (by have := HPl.out; omega) (by have := HPl.out; omega) (by have := HPl.out; omega) (by have := HPl.out; rw [HC0.out]; decide) rfl (Tr.Rds.nil _ _ _) (by simp)
  obtain ⟨s0, s1, s2, s3, s4, s5, s6, s7, s8, s9, s10, s11, s12, s13, s14⟩ := ALL.out w4 (Q.refl _)
  have jT : (1 : Int) < (T.length : Int) := by have := HPl.out; omega
  have hX5 := HA5.out.res
  clear jP
  go_region_held3 (fun w' => w'.cell? ⟨w.heap.size, 0, none⟩ = some (.slice A 4 4) ∧ w'.cell? ⟨w.heap.size, 1, none⟩ = some (.slice S 8 8) ∧ w'.cell? ⟨O, 0, none⟩ = some (.slice (some ⟨g0, 0, none⟩) R.length R.length) ∧ w'.cell? ⟨O, 1, none⟩ = some (.slice (some ⟨g1, 0, none⟩) c.V.length c.V.length) ∧ w'.cell? ⟨O, 2, none⟩ = some (.slice (some ⟨g2, 0, none⟩) c.N.length c.N.length) ∧ w'.cell? ⟨O, 3, none⟩ = some (.slice (some ⟨g3, 0, none⟩) c.M.length c.M.length) ∧ w'.cell? ⟨O, 4, none⟩ = some (.slice (some ⟨gp, 0, none⟩) P.length P.length) ∧ w'.cell? ⟨O, 5, none⟩ = some (.slice (some ⟨gs, 0, none⟩) T.length T.length) ∧ w'.cell? ⟨w.heap.size + 1, 0, none⟩ = some (.slice F R.length cr) ∧ w'.cell? ⟨w.heap.size + 1, 1, none⟩ = some (.slice Av c.V.length k1) ∧ w'.cell? ⟨w.heap.size + 1, 2, none⟩ = some (.slice D c.N.length k2) ∧ w'.cell? ⟨w.heap.size + 1, 3, none⟩ = some (.slice E c.M.length k3) ∧ w'.cell? ⟨w.heap.size + 1, 4, none⟩ = some (.slice Pa P.length kp) ∧ w'.cell? ⟨w.heap.size + 1, 5, none⟩ = some (.slice (some ta) T.length kt) ∧ w'.cell? ⟨ta.block, ta.off + 1, none⟩ = some (.slice At 0 ct))
    (first
      | (with_reducible exact ALL.out _ p5)
      | (with_reducible exact ALS.out _ _ p5 (set6_grown _ _ _ _ _ _ _ _))
      | exact ⟨s0, s1, s2, s3, s4, s5, s6, s7, s8, s9, s10, s11, s12, s13, s14⟩
      | go_keep)
    (first
      | (go_at_call 56; refine (CA.out _ (Q.refl w4).drew).mono ?_; rintro e w5 ⟨v5, rfl, own5, q5⟩; obtain ⟨Al, cl, rfl, -, -⟩ := Rw.own_read own5; have p5 : Q w4 w5 := (Q.refl w4).drew.trans q5; have hX6 := (HA5.out.next p5).res; have x0 := hX6.c.c0; have x1 := hX6.c.c1; have x2 := hX6.c.c2; have x3 := hX6.c.c3; have x4 := hX6.c.c4; have x5 := hX6.c.c5; have xf0 := hX6.f0; have xf1 := hX6.f1; have xf2 := hX6.f2; have xf3 := hX6.f3; have xf4 := hX6.f4; have xf5 := hX6.f5; clear own5 q5 hX6)
      | fail)
  have HQ5 := Lib.hid p5
  have BZ := Lib.hid ((HA5.out.next HQ5.out).res.set (.slice (some ⟨g0, 0, none⟩) R.length R.length) (.slice (some ⟨g1, 0, none⟩) c.V.length c.V.length) (.slice (some ⟨g2, 0, none⟩) c.N.length c.N.length) (.slice (some ⟨g3, 0, none⟩) c.M.length c.M.length) (.slice (some ⟨gp, 0, none⟩) P.length P.length) (.slice (some ⟨gs, 0, none⟩) T.length T.length))
  have hgr := Lib.hid (set6_grown w5 Br (.slice (some ⟨g0, 0, none⟩) R.length R.length) (.slice (some ⟨g1, 0, none⟩) c.V.length c.V.length) (.slice (some ⟨g2, 0, none⟩) c.N.length c.N.length) (.slice (some ⟨g3, 0, none⟩) c.M.length c.M.length) (.slice (some ⟨gp, 0, none⟩) P.length P.length) (.slice (some ⟨gs, 0, none⟩) T.length T.length))
  clear s0 s1 s2 s3 s4 s5 s6 s7 s8 s9 s10 s11 s12 s13 s14 x0 x1 x2 x3 x4 x5 xf0 xf1 xf2 xf3 xf4 xf5 p5 hX5
  go_wp2_with fail
  have y0 := BZ.out.c.c0
  have y1 := BZ.out.c.c1
  have y2 := BZ.out.c.c2
  have y3 := BZ.out.c.c3
  have y4 := BZ.out.c.c4
  have y5 := BZ.out.c.c5
  have e5 : ([[], [2]] : List (List Int)).length = P.length := by have := HPl.out.1; rw [this]; rfl
  refine bodyPost_ret (v := .tuple #[gvP R c [[], [2]] T (some ⟨g0, 0, none⟩) (some ⟨g1, 0, none⟩) (some ⟨g2, 0, none⟩) (some ⟨g3, 0, none⟩) (some ⟨gp, 0, none⟩) (some ⟨gs, 0, none⟩) R.length c.V.length c.N.length c.M.length P.length T.length, .slice Al 0 cl, .bool true]) (by unfold gvP; rw [e5]; simp [results, Try.f30, go_sem, y0, y1, y2, y3, y4, y5]) rfl ?_
  have hbr := HBr.out
  have hg := (HL5.out.next HQ5.out).grp HPl.out.1
  have hg2 := hg.to (agree_grown (P := fun b => w.heap.size + 3 ≤ b) hgr.out (by show ¬ w.heap.size + 3 ≤ Br; omega)) (K' := fun b => w.heap.size ≤ b) (fun b hb _ => Nat.le_trans (Nat.le_add_right _ 3) hb)
  exact ⟨_, _, _, _, _, _, _, _, _, _, _, _, Al, cl, rfl, hg2, grown_q hgr.out (HQ4.out.trans HQ5.out) (by omega)⟩
end Go.Proofs.Ytakfhlakdlmhjaa.Ig
