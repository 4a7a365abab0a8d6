/-
  What the proofs lean on, part 16 of 20.
-/
import Derived.Test.YtnifmfdlocgefaaGreatPc
import Derived.Test.YtnifmfdlocgefaaGreatPe
import Derived.Test.YtnifmfdlocgefaaGreatPf
import Derived.Test.YtnifmfdlocgefaaGreatPl
import Derived.Test.YtnifmfdlocgefaaGreatPo
namespace Go.Proofs.YtnifmfdlocgefaaGreat.Cy
open Go Go.RowKit Go.Maps Go.WideMaps Go.Shelf Kit Uf Ig Tr
open Go.Proofs.YtnifmfdlocgefaaGreat.Hs (Keys Ints)
open Go.Proofs.YtnifmfdlocgefaaGreat.Tm (Wf)
theorem WayM.no {w : World} {b n : Nat} {f : Int → Option Int} (h : WayM w b n f) {p : Addr} {v : Value} (hc : w.cell? p = some v) : p.block ≠ b := fun e => by
  obtain ⟨D, ⟨es, clock, h1, _⟩, _⟩ := h
  unfold World.cell? at hc
  rw [e, h1] at hc
  cases hc
theorem cellw {w w' : World} {b n : Nat} {f : Int → Option Int} (h : WayM w b n f) (g : w.grownBy w' (some b)) {p : Addr} {v : Value} (hc : w.cell? p = some v) : w'.cell? p = some v :=
  cell_grown g hc (fun r e => by injection e with e; subst e; exact fun e2 => h.no hc e2.symm)
theorem grown2 {a b c : World} {r : Nat} (h : a.grownBy b (some r)) (k : b.grownBy c (some r)) : a.grownBy c (some r) := ⟨k.os.trans h.os, k.tape.trans h.tape, k.output.trans h.output, Nat.le_trans h.size k.size, fun i hi hne => (k.block i (Nat.lt_of_lt_of_le hi h.size) hne).trans (h.block i hi hne)⟩
theorem grown_q2 {a b c : World} {r : Nat} (h : a.grownBy b (some r)) (q : Q b c) : a.grownBy c (some r) := ⟨q.os.trans h.os, q.tape.trans h.tape, q.output.trans h.output, Nat.le_trans h.size q.size, fun i hi hne => (q.block i (Nat.lt_of_lt_of_le hi h.size)).trans (h.block i hi hne)⟩
/-- new blocks alone, and one row of them -/
theorem grown_new {a b c : World} {r : Nat} {row : Option Nat} (h : a.grownBy b (some r)) (g : b.grownBy c row) (hr : ∀ x, row = some x → a.heap.size ≤ x) : a.grownBy c (some r) :=
  ⟨g.os.trans h.os, g.tape.trans h.tape, g.output.trans h.output, Nat.le_trans h.size g.size, fun i hi hne => (g.block i (Nat.lt_of_lt_of_le hi h.size) (fun e => by have := hr i e.symm; omega)).trans (h.block i hi hne)⟩
theorem WayM.row {w w' : World} {b n : Nat} {f : Int → Option Int} (h : WayM w b n f) {row : Option Nat} (g : w.grownBy w' row) (hr : ∀ x, row = some x → x ≠ b) : WayM w' b n f := h.kept (g.block b h.lt (fun e => hr b e.symm rfl))

set_option maxRecDepth 100000 in
set_option maxHeartbeats 4000000 in
theorem step13p_any (N b n0 r cr cn : Nat) (nx : Nat → List Int) (f0 : Int → Option Int) (us : List Nat) (An Ra : Option Addr) (w : World) (hN : N ≤ 1000000) (hn0 : n0 + N ≤ 2000000) (hr : r = us.length)
    (hnx : ∀ u ∈ us, ∀ x ∈ nx u, ∃ v : Nat, v < N ∧ x = (v : Int)) (hnl : ∀ u ∈ us, (nx u).length ≤ 1000000) (hus : ∀ u ∈ us, u < N) (hul : us.length ≤ 1000000)
    (hm : WayM w b n0 f0) (hR : Tr.Rds w w.heap.size Ra (cellsI (us.map fun (n : Nat) => (n : Int)))) (hX : Keys w w.heap.size An ((List.range N).map nx)) :
    Calls Tryz.prog 142 #[.map (some b), .slice An N cn, .slice Ra r cr] w fun e w' => ∃ v f out, e = .returned v ∧ FoldOk (pairsI nx us) f0 f out ∧ RowAt w' w.heap.size v (sortI out) ∧ WayM w' b (n0 + out.length) f ∧ w.grownBy w' (some b) := by
  subst hr
  obtain ⟨i0, hi, hz0, hz1, hz2⟩ := info_parts intInfo
  have Hi := Lib.hid hi
  have Hz0 := Lib.hid hz0
  have Hz1 := Lib.hid hz1
  have Hz2 := Lib.hid hz2
  clear hi hz0 hz1 hz2
  have HM := Lib.hid hm
  have HR := Lib.hid hR
  have HX := Lib.hid hX
  have HNX := Lib.hid hnx
  have HNL := Lib.hid hnl
  have HUS := Lib.hid hus
  have HN := Lib.hid hN
  have HN0 := Lib.hid hn0
  have HOL : Hid (∀ (L : List (Int × Int)) (f : Int → Option Int) (out : List Int), FoldOk L f0 f out → (∀ p ∈ L, ∃ v : Nat, v < N ∧ p.2 = (v : Int)) → out.length ≤ N) := fun L f out h hL => by
    have hs := sort_those (L := N) (p := fun n => decide ((n : Int) ∈ out)) h.nd fun x => ⟨fun hx => by
      obtain ⟨_, p, hp, rfl⟩ := (h.mem x).1 hx
      obtain ⟨v, hv, e⟩ := hL p hp
      exact ⟨v, hv, decide_eq_true (e ▸ hx), e⟩, fun ⟨n, _, h1, e⟩ => by rw [e]; exact of_decide_eq_true h1⟩
    have h2 := those_len N (fun n => decide ((n : Int) ∈ out))
    rw [← hs, sortI_len] at h2
    exact h2
  clear hm hR hX hnx hnl hus hN hn0
  go_enter Tryz.func142, Tryz.ntmps142
  go_wp2_with fail
  go_loopw [7, 14] (fun vo i wr => ∃ (k : Nat) (f : Int → Option Int) (out : List Int) (Ao : Option Addr) (co : Nat), k ≤ us.length ∧ i = .int .i64 k ∧ vo = .slice Ao out.length co ∧ Hid (FoldOk (pairsI nx (us.take k)) f0 f out) ∧ Hid (wr.ownsRow w.heap.size 3 1 (.slice Ao out.length co) out.length (cellsI out)) ∧ Hid (WayM wr b (n0 + out.length) f) ∧ Hid (w.grownBy wr (some b))) (fun _ i _ => us.length - (intOf i).toNat)
  case atStart => exact ⟨0, f0, [], none, 0, Nat.zero_le _, rfl, rfl, FoldOk.start f0, own_nil w _, HM, grown_none w _⟩
  case round =>
    obtain ⟨k, f, out, Ao, co, hk, rfl, rfl, HF, HO, HW, HG⟩ := hrel
    by_cases hlt : k < us.length
    · obtain ⟨ad, hra, hrl, hrc⟩ := HR.out (by simp [cellsI]; omega)
      subst hra
      obtain ⟨u, hu⟩ : ∃ u, u = us[k] := ⟨_, rfl⟩
      have hum : u ∈ us := hu ▸ List.getElem_mem hlt
      have c0 : wr.cell? (ad.add k) = some (.int .i64 (u : Int)) := cellw HM.out HG.out (hrc k _ (by rw [hu]; simp [cellsI, hlt]))
      have huN := HUS.out u hum
      have hr0 : ((List.range N).map nx)[u]? = some (nx u) := by rw [List.getElem?_map, List.getElem?_range huN]; rfl
      obtain ⟨an, hann, hanl, hanc⟩ := HX.out (by simp; omega)
      subst hann
      obtain ⟨Ax, cx, hcx, cx0, hIx⟩ := hanc u (nx u) hr0
      have c1 : wr.cell? (an.add u) = some (.slice Ax (nx u).length cx) := cellw HM.out HG.out cx0
      have d1 : decide ((k : Int) < (us.length : Int)) = true := decide_eq_true (by omega)
      have d2 : decide (k < us.length) = true := decide_eq_true hlt
      have hukN : (u : Int) < (N : Int) := by omega
      have Hnl := HNL.out u hum
      have HTk : Hid (pairsI nx (us.take (k + 1)) = pairsI nx (us.take k) ++ (nx u).map fun w => ((u : Int), w)) := by unfold Hid; rw [List.take_succ_eq_append_getElem hlt, pairsI_snoc, hu]
      have HIx := Lib.hid hIx
      have HNXu := Lib.hid (HNX.out u hum)
      have HLk : Hid (∀ m : Nat, ∀ p ∈ pairsI nx (us.take k) ++ ((nx u).take m).map (fun w => ((u : Int), w)), ∃ v : Nat, v < N ∧ p.2 = (v : Int)) := fun m p hp => by
        rcases List.mem_append.1 hp with hp | hp
        · unfold pairsI at hp
          obtain ⟨y, hy, hp⟩ := List.mem_flatMap.1 hp
          obtain ⟨z, hz, rfl⟩ := List.mem_map.1 hp
          exact HNX.out y (List.mem_of_mem_take hy) z hz
        · obtain ⟨z, hz, rfl⟩ := List.mem_map.1 hp
          exact HNXu.out z (List.mem_of_mem_take hz)
      have hf0 : FoldOk (pairsI nx (us.take k) ++ ((nx u).take 0).map (fun w => ((u : Int), w))) f0 f out := by simpa using HF.out
      have HF0 := Lib.hid hf0
      clear hrc hrl cx0 hanc hanl hr0 hIx hu hcx hf0 HF hum
      go_upto_region 6 with fail
      clear c0 c1 d1 d2
      go_loopw [7, 23] (fun vo i wx => ∃ (m : Nat) (f : Int → Option Int) (out : List Int) (Ao : Option Addr) (co : Nat), m ≤ (nx u).length ∧ i = .int .i64 m ∧ vo = .slice Ao out.length co ∧ Hid (FoldOk (pairsI nx (us.take k) ++ ((nx u).take m).map (fun w => ((u : Int), w))) f0 f out) ∧ Hid (wx.ownsRow w.heap.size 3 1 (.slice Ao out.length co) out.length (cellsI out)) ∧ Hid (WayM wx b (n0 + out.length) f) ∧ Hid (w.grownBy wx (some b))) (fun _ i _ => (nx u).length - (intOf i).toNat)
      case atStart => exact ⟨0, f, out, Ao, co, Nat.zero_le _, rfl, rfl, HF0, HO, HW, HG⟩
      case round =>
        clear HF0 HO HW HG
        obtain ⟨m, f, out, Ao, co, hm, rfl, rfl, HF, HO, HW, HG⟩ := hrel
        by_cases hml : m < (nx u).length
        · obtain ⟨ax, hax, haxl, haxc⟩ := HIx.out (by omega)
          subst hax
          obtain ⟨x, hx⟩ : ∃ x, x = (nx u)[m] := ⟨_, rfl⟩
          obtain ⟨v, hvN, hxv⟩ := HNXu.out x (hx ▸ List.getElem_mem hml)
          have c0 : wr.cell? (ax.add m) = some (.int .i64 (v : Int)) := cellw HM.out HG.out (by rw [haxc m _ (List.getElem?_eq_getElem hml), ← hx, hxv])
          have d1 : decide ((m : Int) < ((nx u).length : Int)) = true := decide_eq_true (by omega)
          have d2 : decide (m < (nx u).length) = true := decide_eq_true hml
          have HTm : Hid (((nx u).take (m + 1)).map (fun w => ((u : Int), w)) = ((nx u).take m).map (fun w => ((u : Int), w)) ++ [((u : Int), (v : Int))]) := by unfold Hid; rw [List.take_succ_eq_append_getElem hml, List.map_append, ← hx, hxv]; rfl
          have hN := HN.out
          have hwv : Wf (v : Int) := by unfold Wf; omega
          have hwu : Wf (u : Int) := by unfold Wf; omega
          have HHas := Lib.hid (has13_any b _ f (v : Int) wr HW.out hwv)
          have hol := HOL.out _ _ _ HF.out (HLk.out m)
          have HPut := Lib.hid (way_put HW.out hwv hwu (by have := HN0.out; omega))
          have HGs : Hid (wr.heap.size ≥ w.heap.size) := HG.out.size
          have hol2 : out.length ≤ 1000000 := by omega
          have HbW : Hid (b < w.heap.size) := HM.out.lt
          clear haxc haxl hx hxv hN hwv hwu hol
          cases hf : (f (v : Int)).isSome
          · have HF2 := Lib.hid (HF.out.new (u : Int) (v : Int) hf)
            obtain ⟨w2, hput, hW2, hg2⟩ := HPut.out
            have HW2 := Lib.hid hW2
            have HG2 := Lib.hid (grown2 HG.out hg2)
            have HO2 := Lib.hid (HO.out.kept hg2 (.inr (fun e => by have := (HO.out.lt _ e).1; have := HbW.out; omega)))
            have qa := (Q.refl w2).alloc (Obj.cells #[.int .i64 (v : Int)] 3)
            have Ho := Lib.hid (row_kept HO2.out qa (Nat.le_refl _))
            have Hsz : Hid (w.heap.size ≤ (w2.alloc (Obj.cells #[.int .i64 (v : Int)] 3)).heap.size) := by have h1 := HG2.out.size; have h2 := qa.size; unfold Hid; omega
            have HQa := Lib.hid qa
            have Hs : Hid (Src (w2.alloc (Obj.cells #[.int .i64 (v : Int)] 3)) (some ⟨w2.heap.size, 0, none⟩) [.int .i64 (v : Int)]) := fun _ => ⟨_, rfl, src1 w2 (.int .i64 (v : Int)) 3⟩
            clear hW2 hg2 qa HPut HO HW HG HF
            go_wp2_with (first
              | (go_at_call 141; refine HHas.out.mono ?_; rintro e wh ⟨rfl, rfl⟩; rw [hf])
              | (at_builtin; refine wpList_append_src _ rfl (.tmp 34) (.tmp 36) _ rfl w.heap.size 3 i0 _ 1 8 Tryz.underlying24 Hi.out Hz0.out Hz1.out Hz2.out rfl (by omega) _ out.length (cellsI out) rfl Ho.out (some ⟨w2.heap.size, 0, none⟩) 1 1 [.int .i64 (v : Int)] rfl rfl Hs.out (by simp [Value.oneCell']) (by unfold maxLen; omega) (by omega) Hsz.out ?_; intro v' w3 own' gr' hat; obtain ⟨Ao2, co2, rfl, -, -⟩ := own_o own'; have Own := Lib.hid own'; have HGr := Lib.hid gr'; clear own' gr' hat))
            go_roundw
            case rel => exact ⟨m + 1, _, out ++ [(v : Int)], Ao2, co2, by omega, by go_num, by simp, by rw [HTm.out, ← List.append_assoc]; exact HF2, by have h := Own.out; unfold Hid; rw [List.length_append, cellsI_append]; exact h, (by have h := HW2.out.q HQa.out; have h2 := h.row HGr.out (fun x e => by have := (Ho.out.lt x e).1; have := HbW.out; omega); unfold Hid; rw [List.length_append, ← Nat.add_assoc]; exact h2), grown_new (grown_q2 HG2.out HQa.out) HGr.out (fun x e => (Ho.out.lt x e).1)⟩
            case measure => simp [intOf]; omega
          · have HF2 := Lib.hid (HF.out.was (u : Int) (v : Int) hf)
            clear HPut HF
            go_wp2_with (go_at_call 141; refine HHas.out.mono ?_; rintro e wh ⟨rfl, rfl⟩; rw [hf])
            go_roundw
            case rel => exact ⟨m + 1, f, out, Ao, co, by omega, by go_num, rfl, by rw [HTm.out, ← List.append_assoc]; exact HF2, HO, HW, HG⟩
            case measure => simp [intOf]; omega
        · obtain rfl : m = (nx u).length := by omega
          have d1 : decide (((nx u).length : Int) < ((nx u).length : Int)) = false := decide_eq_false (by omega)
          have d2 : decide ((nx u).length < (nx u).length) = false := decide_eq_false (by omega)
          have HF2 : Hid (FoldOk (pairsI nx (us.take (k + 1))) f0 f out) := by have h := HF.out; rw [List.take_length] at h; rw [HTk.out]; exact h
          clear HF
          go_wp2_with fail
          go_roundw
          case rel => exact ⟨k + 1, f, out, Ao, co, by omega, by go_num, rfl, HF2, HO, HW, HG⟩
          case measure => simp [intOf]; omega
    · obtain rfl : k = us.length := by omega
      have d1 : decide ((us.length : Int) < (us.length : Int)) = false := decide_eq_false (by omega)
      have d2 : decide (us.length < us.length) = false := decide_eq_false (by omega)
      rw [List.take_length] at HF
      have HLe : Hid (out.length ≤ 1000000) := by
        have h1 := HOL.out _ _ _ HF.out (fun p hp => by
          unfold pairsI at hp
          obtain ⟨y, hy, hp⟩ := List.mem_flatMap.1 hp
          obtain ⟨z, hz, rfl⟩ := List.mem_map.1 hp
          exact HNX.out y hy z hz)
        have h2 := HN.out
        exact Nat.le_trans h1 h2
      have HRw := Lib.hid (rowAt_of HO.out rfl)
      have HvB : Hid (∀ x, (Value.slice Ao out.length co).ownBlock = some x → w.heap.size ≤ x) := fun x e => (HO.out.lt x e).1
      have HbW : Hid (b < w.heap.size) := HM.out.lt
      go_wp2_with (go_at_call 67; refine (sortI_any w.heap.size _ out wr HRw.out HLe.out).mono ?_; rintro e w4 ⟨rfl, hr4, g4⟩; have HR4 := Lib.hid hr4; have HG4 := Lib.hid g4; clear hr4 g4)
      go_ret
      exact ⟨_, f, out, rfl, HF.out, HR4.out, HW.out.row HG4.out (fun x e => by have := HvB.out x e; have := HbW.out; omega), grown_new HG.out HG4.out (fun x e => HvB.out x e)⟩
end Go.Proofs.YtnifmfdlocgefaaGreat.Cy

namespace Go.Proofs.YtnifmfdlocgefaaGreat.Cy
open Go Go.RowKit Go.Maps Go.WideMaps Go.Shelf Kit Uf Ig Tr
open Go.Proofs.YtnifmfdlocgefaaGreat.Hs (Keys Ints)
open Go.Proofs.YtnifmfdlocgefaaGreat.Tm (Wf lawI zeroI)
theorem own_new13 (w : World) (v : Value) (t : TypeId) : OwnC (w.alloc (.cells #[v] t)) w.heap.size [v] := ⟨by simp, fun i x hx => by
  match i, hx with
  | 0, hx =>
    obtain rfl : v = x := by simpa using hx
    exact ⟨by simp, by simp⟩⟩

set_option maxRecDepth 100000 in
set_option maxHeartbeats 4000000 in
theorem search13p_any (N s t cn : Nat) (depth : Int) (e : Nat → Nat → Bool) (nx : Nat → List Int) (An : Option Addr) (w : World) (hN : N ≤ 1000) (hs : s < N) (ht : t < N)
    (hnx : ∀ j u, u < N → dl N e s j u = (j : Int) → ∀ x, x ∈ nx u ↔ ∃ v : Nat, v < N ∧ e u v = true ∧ x = (v : Int)) (hnl : ∀ u, u < N → (nx u).length ≤ 1000000) (hX : Keys w w.heap.size An ((List.range N).map nx)) :
    Calls Tryz.prog 71 #[.slice An N cn, .int .i64 (s : Int), .int .i64 (t : Int), .int .i64 depth] w fun e' w' => ∃ (b n j : Nat), e' = .returned (.map (some b)) ∧ (j : Int) ≤ max depth 0 ∧ ((j : Int) = max depth 0 ∨ (∀ u, u < N → dl N e s j u ≠ (j : Int)) ∨ 0 ≤ dl N e s j t) ∧ WayM w' b n (wayF N e s j) ∧ Q w w' := by
  have HX := Lib.hid hX
  have HNX := Lib.hid hnx
  have HNL := Lib.hid hnl
  have HN := Lib.hid hN
  have HS := Lib.hid hs
  have HT := Lib.hid ht
  have hmm := @run_makeMap Tryz.prog
  have hws : Wf (s : Int) := by unfold Wf; omega
  have Hws := Lib.hid hws
  have H0 : Hid (∀ x, wayF N e s 0 x = setW (fun _ => none) (s : Int) (s : Int) x) := fun x => by rw [wayF_zero hs]; rfl
  have HR0 : Hid ((reachL N e s 0).map (fun (n : Nat) => (n : Int)) = [(s : Int)]) := by unfold Hid; rw [reach_zero hs]; rfl
  obtain ⟨w1, hput, hW1, hg1⟩ := way_put (way_made w) hws hws (by omega)
  have HW1 := Lib.hid hW1
  have HQ1 : Hid (Q w w1) := q_grown ((Q.refl w).alloc _) hg1 (fun r e => by injection e with e; omega)
  clear hX hnx hnl hN hs ht hws hW1 hg1
  go_enter Tryz.func71, Tryz.ntmps71
  go_upto_region 2 with fail
  clear hput hmm
  have HO2 := Lib.hid (own_new13 w1 (.int .i64 (s : Int)) 3)
  have HQ2 := Lib.hid ((Q.refl w1).alloc (.cells #[.int .i64 (s : Int)] 3))
  generalize w1.alloc (.cells #[.int .i64 (s : Int)] 3) = w2 at *
  have HW2 : Hid (WayM w2 w.heap.size 1 (wayF N e s 0)) := (HW1.out.congr H0.out).q HQ2.out
  have HQw2 := Lib.hid (HQ1.out.trans HQ2.out)
  go_wp2_with fail
  go_loopw [10, 18] (fun vr i wr => ∃ (j n cr : Nat) (Ar : Option Addr), i = .int .i64 j ∧ vr = .slice Ar (reachL N e s j).length cr ∧ Hid (n ≤ 1 + N * j) ∧ Hid ((j : Int) ≤ max depth 0) ∧ Hid (Tr.Rds wr wr.heap.size Ar (cellsI ((reachL N e s j).map fun (n : Nat) => (n : Int)))) ∧ Hid (WayM wr w.heap.size n (wayF N e s j)) ∧ Hid (Q w wr)) (fun _ i _ => (depth - intOf i).toNat)
  case atStart => exact ⟨0, 1, _, _, rfl, by rw [reach_zero HS.out]; rfl, by unfold Hid; omega, by unfold Hid; omega, by rw [HR0.out]; exact fun _ => ⟨_, rfl, HO2.out.1, fun i v hv => by rw [Hs.add_zero_head]; exact (HO2.out.2 i v hv).1⟩, HW2, HQw2⟩
  case round =>
    clear HO2 HW2 HQw2
    obtain ⟨j, n, cr, Ar, rfl, rfl, Hn, Hj, HR, HW, HQ⟩ := hrel
    by_cases hjd : (j : Int) < depth
    · have d1 : decide ((j : Int) < depth) = true := decide_eq_true hjd
      by_cases hre : (reachL N e s j).length = 0
      · have e1 : (((reachL N e s j).length : Int) == (0 : Int)) = true := by rw [hre]; rfl
        have hno : ∀ u, u < N → dl N e s j u ≠ (j : Int) := fun u hu hd => by
          have : u ∈ reachL N e s j := by simp [reachL, hu, hd]
          rw [List.eq_nil_of_length_eq_zero hre] at this
          cases this
        have HNo := Lib.hid hno
        clear hre hno
        go_wp2_with fail
        go_ret
        exact ⟨_, n, j, rfl, Hj.out, .inr (.inl HNo.out), HW.out, HQ.out⟩
      · have e1 : (((reachL N e s j).length : Int) == (0 : Int)) = false := beq_eq_false_iff_ne.2 (by omega)
        have hjN : j < N := by
          obtain ⟨u, hu⟩ := List.exists_mem_of_length_pos (Nat.pos_of_ne_zero hre)
          simp only [reachL, List.mem_filter, List.mem_range, decide_eq_true_eq] at hu
          exact dl_many ⟨u, hu.1, hu.2⟩
        have hN := HN.out
        have hT := HT.out
        have HHas := Lib.hid (has13_any w.heap.size n (wayF N e s j) (t : Int) wr HW.out (by unfold Wf; omega))
        have hsome := wayF_isSome (N := N) (e := e) (s := s) j t hT
        have hpos := Nat.pos_of_ne_zero hre
        have hmulN : N * j ≤ 1000 * 1000 := Nat.mul_le_mul hN (by omega)
        have hml : N * (j + 1) = N * j + N := Nat.mul_succ _ _
        have HSt := Lib.hid (step13p_any N w.heap.size n (reachL N e s j).length cr cn nx (wayF N e s j) (reachL N e s j) An Ar wr (by omega) (by have := Hn.out; omega) rfl
          (fun u hu x hx => by
            simp only [reachL, List.mem_filter, List.mem_range, decide_eq_true_eq] at hu
            obtain ⟨v, h1, _, h3⟩ := (HNX.out j u hu.1 hu.2 x).1 hx
            exact ⟨v, h1, h3⟩)
          (fun u hu => by simp only [reachL, List.mem_filter, List.mem_range] at hu; exact HNL.out u hu.1)
          (fun u hu => by simp only [reachL, List.mem_filter, List.mem_range] at hu; exact hu.1)
          (by unfold reachL; have := List.length_filter_le (fun v => decide (dl N e s j v = (j : Int))) (List.range N); rw [List.length_range] at this; omega)
          HW.out HR.out ((HX.out.q (Nat.le_refl _) HQ.out).more HQ.out.size))
        have Hm := Lib.hid (show n + N ≤ 1 + N * (j + 1) by have := Hn.out; omega)
        have HjN := Lib.hid hjN
        have hjb : j ≤ 1000 := by omega
        clear hN hT hpos hre hmulN hml hjN
        cases hf : (wayF N e s j (t : Int)).isSome
        · rw [hf] at hsome
          clear hsome
          go_wp2_with (first
            | (go_at_call 141; refine HHas.out.mono ?_; rintro e' wh ⟨rfl, rfl⟩; rw [hf])
            | (go_at_call 142; refine HSt.out.mono ?_; rintro e' w4 ⟨v4, f4, out4, rfl, hF4, hR4, hW4, hg4⟩; have HF4 := Lib.hid hF4; have HR4 := Lib.hid hR4; have HW4 := Lib.hid hW4; have HG4 := Lib.hid hg4; clear hF4 hR4 hW4 hg4))
          obtain ⟨l1, l2⟩ := level (fun u hu hd => HNX.out j u hu hd) HF4.out
          obtain ⟨A4, c4, rfl, hc4, ho4⟩ := HR4.out
          have hrl : (sortI out4) = (reachL N e s (j + 1)).map fun (n : Nat) => (n : Int) := by rw [l2]; exact reach_those (j + 1)
          have hrl2 : (sortI out4).length = (reachL N e s (j + 1)).length := by rw [hrl, List.length_map]
          have hol : out4.length ≤ N := by rw [← sortI_len out4, l2]; exact those_len _ _
          have hq4 : Q w w4 := q_grown HQ.out HG4.out (fun r e => by injection e with e; omega)
          have Hol := Lib.hid hol
          go_roundw
          case rel => exact ⟨j + 1, n + out4.length, c4, A4, by go_num, by rw [hrl2], by have := Hm.out; have := Hol.out; unfold Hid; omega, by unfold Hid; omega, by rw [← hrl]; exact OwnO.rds ho4, HW4.out.congr (fun x => (l1 x).symm), hq4⟩
          case measure => simp [intOf]; omega
        · rw [hf] at hsome
          have HP := Lib.hid (of_decide_eq_true hsome.symm)
          clear hsome
          go_wp2_with (go_at_call 141; refine HHas.out.mono ?_; rintro e' wh ⟨rfl, rfl⟩; rw [hf])
          go_ret
          exact ⟨_, n, j, rfl, Hj.out, .inr (.inr HP.out), HW.out, HQ.out⟩
    · have d1 : decide ((j : Int) < depth) = false := decide_eq_false hjd
      have HE : Hid ((j : Int) = max depth 0) := by have := Hj.out; unfold Hid; omega
      go_wp2_with fail
      go_ret
      first
        | exact ⟨_, n, j, rfl, Hj.out, .inl HE.out, HW.out, HQ.out⟩
        | exact ⟨_, rfl, n, j, Hj.out, .inl HE.out, HW.out, HQ.out⟩
        | exact ⟨_, rfl, j, Hj.out, .inl HE.out, n, HW.out, HQ.out⟩
end Go.Proofs.YtnifmfdlocgefaaGreat.Cy

namespace Go.Proofs.YtnifmfdlocgefaaGreat.Cy
open Go Go.RowKit Go.Maps Go.WideMaps Go.Lib Go.Sort Go.Shelf Kit Uf Ig Tr
open Go.Proofs.YtnifmfdlocgefaaGreat.Tm (Wf)
theorem reverseI_any (base : Nat) (u : Value) (l : List Int) (w : World) (h : RowAt w base u l) (hl : l.length ≤ 1000000) :
    Calls Tryz.prog 143 #[u] w fun e w' => e = .returned (.tuple #[]) ∧ RowAt w' base u l.reverse ∧ w.grownBy w' u.ownBlock := by
  obtain ⟨A, c, rfl, hc, ho⟩ := h
  by_cases h0 : 0 < l.length
  · obtain ⟨g, rfl, hg, hO⟩ := ho (by rw [cellsI_len]; exact h0)
    refine (Tryz.slices_Reverse_int g 0 c l w (row_holds hO) (by omega)).mono ?_
    rintro e w' ⟨rfl, n, rfl⟩
    refine ⟨rfl, ⟨_, c, by rw [List.length_reverse], by rw [List.length_reverse]; exact hc, fun _ => ⟨g, rfl, hg, ?_⟩⟩, ahead_putRow w n g _⟩
    have hp : Holds (Value.int .i64) (putRow (Value.int .i64) (Sort.ahead w n) g 0 l.reverse.toArray) g 0 l.reverse.toArray := holds_putRow _ _ _ _ l.toArray _ (holds_ahead _ _ _ _ _ _ (row_holds hO)) (by simp)
    exact holds_own hp (by simp; exact hO.1)
  · have e0 : l = [] := List.eq_nil_of_length_eq_zero (by omega)
    subst e0
    refine (Tryz.slices_Reverse_int_empty A c w).mono ?_
    rintro e w' ⟨rfl, rfl⟩
    exact ⟨rfl, ⟨A, c, rfl, hc, fun h => by simp [cellsI] at h⟩, grown_none _ _⟩
theorem row_of_rowAt {w w' : World} {u : Value} {l : List Int} (h : RowAt w' w.heap.size u l) (q : Q w w') : RowPost l w (.returned u) w' := by
  obtain ⟨A, c, rfl, hc, ho⟩ := h
  exact ⟨A, c, rfl, hc, OwnO.rds ho, q⟩
/-- what is laid, i steps having been gone back -/
def outB (B : List Nat) (i : Nat) : List Int := (B.reverse.take (i + 1)).map fun (n : Nat) => (n : Int)
theorem outB_succ {B : List Nat} {d i u : Nat} (hB : B.length = d + 1) (hi : i < d) (hu : B[d - (i + 1)]? = some u) : outB B (i + 1) = outB B i ++ [(u : Int)] := by
  unfold outB
  have h1 : i + 1 < B.reverse.length := by rw [List.length_reverse]; omega
  rw [List.take_succ_eq_append_getElem h1, List.map_append]
  congr 1
  have h2 : B.reverse[i + 1] = u := by
    have h3 : B.reverse[i + 1]? = some u := by
      rw [List.getElem?_reverse (by omega), hB, show d + 1 - 1 - (i + 1) = d - (i + 1) by omega]; exact hu
    rw [List.getElem?_eq_getElem h1] at h3
    injection h3
  rw [h2]; rfl
theorem outB_all {B : List Nat} {d : Nat} (hB : B.length = d + 1) : (outB B d).reverse = B.map fun (n : Nat) => (n : Int) := by
  unfold outB
  rw [List.take_of_length_le (by rw [List.length_reverse]; omega), List.map_reverse, List.reverse_reverse]
theorem outB_len {B : List Nat} {d i : Nat} (hB : B.length = d + 1) (hi : i ≤ d) : (outB B i).length = i + 1 := by
  unfold outB
  rw [List.length_map, List.length_take, List.length_reverse]; omega

theorem own_one13 (w : World) (x : Int) : (w.alloc (.cells #[.int .i64 x] 3)).ownsRow w.heap.size 3 1 (.slice (some ⟨w.heap.size, 0, none⟩) 1 1) 1 (cellsI [x]) :=
  ⟨by simp [cellsI], .inr ⟨w.heap.size, 1, _, rfl, Nat.le_refl _, heap_alloc_new w _, Nat.le_refl _, by unfold maxLen; omega, rfl, rfl⟩⟩
set_option maxRecDepth 100000 in
set_option maxHeartbeats 4000000 in
theorem to13p_any (N s t j b n : Nat) (e : Nat → Nat → Bool) (w : World) (hN : N ≤ 1000) (hs : s < N) (ht : t < N) (hm : WayM w b n (wayF N e s j)) :
    Calls Tryz.prog 73 #[.map (some b), .int .i64 (t : Int)] w (RowPost ((if 0 ≤ dl N e s j t then back N e (dl N e s j) (dl N e s j t).toNat t else []).map fun (n : Nat) => (n : Int)) w) := by
  have HM := Lib.hid hm
  have HHas := Lib.hid (has13_any b n (wayF N e s j) (t : Int) w hm (by unfold Wf; omega))
  have hsome := wayF_isSome (N := N) (e := e) (s := s) j t ht
  by_cases hd : 0 ≤ dl N e s j t
  · rw [decide_eq_true hd] at hsome
    rw [if_pos hd]
    obtain ⟨d, hdd⟩ := Int.eq_ofNat_of_zero_le hd
    have hdd : dl N e s j t = (d : Int) := hdd
    rw [hdd, Int.toNat_natCast]
    obtain ⟨B, hB⟩ : ∃ B, B = back N e (dl N e s j) d t := ⟨_, rfl⟩
    have hBl : B.length = d + 1 := by rw [hB, back_len]
    -- each on it, and what the map says of it
    have HB : Hid (∀ i, i ≤ d → ∃ u, B[d - i]? = some u ∧ u < N ∧ dl N e s j u = ((d - i : Nat) : Int)) := fun i hi => by
      obtain ⟨u, h1, h2, h3, _⟩ := back_far hdd ht (d - i) (by omega)
      exact ⟨u, by rw [hB]; exact h1, h2, h3⟩
    have HW : Hid (∀ i u, i < d → B[d - i]? = some u → u < N → dl N e s j u = ((d - i : Nat) : Int) → ∃ p, B[d - (i + 1)]? = some p ∧ p < N ∧ dl N e s j p = ((d - (i + 1) : Nat) : Int) ∧ (wayF N e s j (u : Int)).getD 0 = (p : Int)) := fun i u hi hu huN hdu => by
      obtain ⟨u', h1, h2⟩ := back_prev (N := N) (e := e) (D := dl N e s j) d t (i := d - (i + 1)) (by omega)
      rw [← hB, show d - (i + 1) + 1 = d - i by omega, hu] at h1
      injection h1 with h1
      subst h1
      rw [← hB] at h2
      obtain ⟨p, h3, h4, h5⟩ := HB.out (i + 1) (by omega)
      rw [h2] at h3
      injection h3 with h3
      refine ⟨p, by rw [h2, h3], h4, h5, ?_⟩
      unfold wayF
      rw [if_pos ⟨by omega, by omega, by simp only [Int.toNat_natCast]; omega⟩]
      simp only [Int.toNat_natCast]
      rw [if_neg (by omega), hdu, Int.toNat_natCast, show d - i - 1 = d - (i + 1) by omega, h3]
      rfl
    have HS0 : Hid ((wayF N e s j (s : Int)).getD 0 = (s : Int)) := by
      have h0 := dl_self (N := N) (e := e) (s := s) j
      unfold Hid wayF
      rw [if_pos ⟨by omega, by omega, by simp only [Int.toNat_natCast]; omega⟩]
      simp only [Int.toNat_natCast]
      rw [if_pos h0]
      rfl
    have HBl := Lib.hid hBl
    have HB0 : Hid (B[d - 0]? = some t) := by rw [hB]; exact back_last _ _ _
    have HT := Lib.hid ht
    have HS := Lib.hid hs
    have HN := Lib.hid hN
    have Hdd := Lib.hid hdd
    have hdN : d < N := dl_many (N := N) (e := e) (s := s) (k := d) ⟨t, ht, by
      by_cases h : d ≤ j
      · exact (dl_same (Nat.le_refl _) h).2 hdd
      · have := (dl_bound (N := N) (e := e) (s := s) j t).2; omega⟩
    have hdb : d ≤ 1000 := by omega
    obtain ⟨i0, hi, hz0, hz1, hz2⟩ := info_parts intInfo
    have Hi := Lib.hid hi
    have Hz0 := Lib.hid hz0
    have Hz1 := Lib.hid hz1
    have Hz2 := Lib.hid hz2
    have e0 : outB B 0 = [(t : Int)] := by
      unfold outB
      have : B.reverse[0]? = some t := by rw [List.getElem?_reverse (by omega), hBl]; exact HB0.out
      have h1 : 0 < B.reverse.length := by rw [List.length_reverse]; omega
      rw [List.take_succ_eq_append_getElem h1, List.take_zero, List.nil_append]
      rw [List.getElem?_eq_getElem h1] at this
      injection this with this
      rw [this]; rfl
    have HE0 := Lib.hid e0
    rw [← hB]
    clear hi hz0 hz1 hz2 hB hBl hdd hd hdN hN hs ht hm e0
    go_enter Tryz.func73, Tryz.ntmps73
    go_upto_region 3 with (go_at_call 141; refine HHas.out.mono ?_; rintro e' wh ⟨rfl, hwh⟩; obtain rfl : w = wh := hwh.symm; rw [hsome])
    go_upto_region 4 with fail
    have qa := (Q.refl w).alloc (.cells #[.int .i64 (t : Int)] 3)
    have Ho0 := Lib.hid (own_one13 w (t : Int))
    have HQa := Lib.hid qa
    clear qa hsome
    generalize w.alloc (.cells #[.int .i64 (t : Int)] 3) = w1 at *
    go_loopw [1, 5] (fun v vo wr => ∃ (i u co : Nat) (Ao : Option Addr), i ≤ d ∧ v = .int .i64 (u : Int) ∧ vo = .slice Ao (i + 1) co ∧ Hid (B[d - i]? = some u) ∧ Hid (u < N) ∧ Hid (dl N e s j u = ((d - i : Nat) : Int)) ∧ Hid (wr.ownsRow w.heap.size 3 1 (.slice Ao (i + 1) co) (i + 1) (cellsI (outB B i))) ∧ Hid (Q w wr)) (fun v _ _ => (dl N e s j (intOf v).toNat).toNat)
    case atStart => exact ⟨0, t, 1, _, Nat.zero_le _, rfl, rfl, HB0, HT, Hdd, by rw [HE0.out]; exact Ho0.out, HQa⟩
    case round =>
      clear Ho0 HQa
      obtain ⟨i, u, co, Ao, hi, rfl, rfl, Hu, HuN, Hdu, HO, HQ⟩ := hrel
      have HMr := Lib.hid (HM.out.q HQ.out)
      have hwu : Wf (u : Int) := by have := HuN.out; have := HN.out; unfold Wf; omega
      have hlook := way_look HMr.out hwu
      by_cases hid : i < d
      · obtain ⟨p, h1, h2, h3, h4⟩ := HW.out i u hid Hu.out HuN.out Hdu.out
        rw [h4] at hlook
        have hne : p ≠ u := fun e => by rw [e, Hdu.out] at h3; omega
        have e1 : ((p : Int) != (u : Int)) = true := by simp; omega
        have HP1 := Lib.hid h1
        have HP2 := Lib.hid h2
        have HP3 := Lib.hid h3
        have HOs := Lib.hid (outB_succ HBl.out hid h1)
        have qa := (Q.refl wr).alloc (Obj.cells #[.int .i64 (p : Int)] 3)
        have Ho := Lib.hid (row_kept HO.out qa (Nat.le_refl _))
        have HQa := Lib.hid (HQ.out.trans qa)
        have Hs : Hid (Src (wr.alloc (Obj.cells #[.int .i64 (p : Int)] 3)) (some ⟨wr.heap.size, 0, none⟩) [.int .i64 (p : Int)]) := fun _ => ⟨_, rfl, src1 wr (.int .i64 (p : Int)) 3⟩
        have Hmu : Hid ((dl N e s j p).toNat < (dl N e s j u).toNat) := by have := Hdu.out; unfold Hid; omega
        clear h1 h2 h3 h4 hne qa HO HQ hwu
        go_wp2_with (at_builtin; refine wpList_append_src _ rfl (.tmp 20) (.tmp 22) _ rfl w.heap.size 3 i0 _ 1 8 Tryz.underlying24 Hi.out Hz0.out Hz1.out Hz2.out rfl (by omega) _ (i + 1) (cellsI (outB B i)) rfl Ho.out (some ⟨wr.heap.size, 0, none⟩) 1 1 [.int .i64 (p : Int)] rfl rfl Hs.out (by simp [Value.oneCell']) (by unfold maxLen; omega) (by omega) HQa.out.size ?_; intro v' w3 own' gr' hat; obtain ⟨Ao2, co2, rfl, -, -⟩ := own_o own'; have Own := Lib.hid own'; have HQ3 : Hid (Q w w3) := Below.grown HQa.out gr' HQa.out.size (fun k e => (Ho.out.lt k e).1); clear own' gr' hat)
        go_roundw
        case rel => exact ⟨i + 1, p, co2, Ao2, by omega, rfl, rfl, HP1, HP2, HP3, by unfold Hid; rw [HOs.out, cellsI_append]; exact Own.out, HQ3⟩
        case measure => simpa [intOf] using Hmu.out
      · obtain rfl : i = d := by omega
        have hd0 : dl N e s j u = 0 := by rw [Hdu.out]; simp
        obtain rfl : u = s := dl_zero (k := j) hd0
        rw [HS0.out] at hlook
        have e1 : ((u : Int) != (u : Int)) = false := by simp
        have HR : Hid (RowAt wr w.heap.size (.slice Ao (i + 1) co) (outB B i)) := rowAt_of HO.out (outB_len HBl.out (Nat.le_refl _)).symm
        have HLe : Hid ((outB B i).length ≤ 1000000) := by unfold Hid; rw [outB_len HBl.out (Nat.le_refl _)]; omega
        have HvB : Hid (∀ x, (Value.slice Ao (i + 1) co).ownBlock = some x → w.heap.size ≤ x) := fun x e => (HO.out.lt x e).1
        clear hd0 hwu
        go_wp2_with (go_at_call 143; refine (reverseI_any w.heap.size _ _ wr HR.out HLe.out).mono ?_; rintro e' w4 ⟨rfl, hr4, g4⟩; have HR4 := Lib.hid hr4; have HG4 := Lib.hid g4; clear hr4 g4)
        go_ret
        have hr := HR4.out
        rw [outB_all HBl.out] at hr
        exact row_of_rowAt hr (q_grown HQ.out HG4.out (fun x e => HvB.out x e))
  · rw [decide_eq_false hd] at hsome
    rw [if_neg hd]
    clear hd
    go_enter Tryz.func73, Tryz.ntmps73
    go_wp2_with (go_at_call 141; refine HHas.out.mono ?_; rintro e' wh ⟨rfl, rfl⟩; rw [hsome])
    go_ret
    exact ⟨none, 0, rfl, Nat.le_refl _, fun h => by simp [cellsI] at h, Q.refl _⟩
end Go.Proofs.YtnifmfdlocgefaaGreat.Cy

namespace Go.Proofs.YtnifmfdlocgefaaGreat.Cy
open Go Go.RowKit Kit Uf Ig Tr
open Go.Proofs.YtnifmfdlocgefaaGreat.Hs (Keys Ints BoxT)

end Go.Proofs.YtnifmfdlocgefaaGreat.Cy

namespace Go.Proofs.YtnifmfdlocgefaaGreat.Cy
open Go Go.RowKit Kit Uf Ig Tr
open Go.Proofs.YtnifmfdlocgefaaGreat.Hs (Keys Ints BoxT)
end Go.Proofs.YtnifmfdlocgefaaGreat.Cy
