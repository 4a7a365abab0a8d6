/-
  What the proofs lean on, part 10 of 11.
-/
import Derived.Test.YteccgjhnifdcfaaPa
import Derived.Test.YteccgjhnifdcfaaPc
import Derived.Test.YteccgjhnifdcfaaPd
import Derived.Test.YteccgjhnifdcfaaPe
import Derived.Test.YteccgjhnifdcfaaPf
import Derived.Test.YteccgjhnifdcfaaPg
import Derived.Test.YteccgjhnifdcfaaPi
import Derived.Laws.EntriesVeiled
namespace Go.Proofs.Yteccgjhnifdcfaa.Cy
open Go Go.RowKit Go.Maps Go.WideMaps Go.Shelf Kit Uf Ig Tr
open Go.Proofs.Yteccgjhnifdcfaa.Hs (Keys Ints)
open Go.Proofs.Yteccgjhnifdcfaa.Tm (Wf)
theorem WayM.no {w : World} {b n : Nat} {f : Int → Option Int} (h : WayM w b n f) {p : Addr} {v : Value} (hc : w.cell? p = some v) : p.block ≠ b := fun e => by
  obtain ⟨D, ⟨es, clock, h1, _⟩, _⟩ := h
  unfold World.cell? at hc
  rw [e, h1] at hc
  cases hc
theorem cellw {w w' : World} {b n : Nat} {f : Int → Option Int} (h : WayM w b n f) (g : w.grownBy w' (some b)) {p : Addr} {v : Value} (hc : w.cell? p = some v) : w'.cell? p = some v :=
  cell_grown g hc (fun r e => by injection e with e; subst e; exact fun e2 => h.no hc e2.symm)
theorem grown2 {a b c : World} {r : Nat} (h : a.grownBy b (some r)) (k : b.grownBy c (some r)) : a.grownBy c (some r) := ⟨k.os.trans h.os, k.tape.trans h.tape, k.output.trans h.output, Nat.le_trans h.size k.size, fun i hi hne => (k.block i (Nat.lt_of_lt_of_le hi h.size) hne).trans (h.block i hi hne)⟩
theorem grown_q2 {a b c : World} {r : Nat} (h : a.grownBy b (some r)) (q : Q b c) : a.grownBy c (some r) := ⟨q.os.trans h.os, q.tape.trans h.tape, q.output.trans h.output, Nat.le_trans h.size q.size, fun i hi hne => (q.block i (Nat.lt_of_lt_of_le hi h.size)).trans (h.block i hi hne)⟩
/-- new blocks alone, and one row of them -/
theorem grown_new {a b c : World} {r : Nat} {row : Option Nat} (h : a.grownBy b (some r)) (g : b.grownBy c row) (hr : ∀ x, row = some x → a.heap.size ≤ x) : a.grownBy c (some r) :=
  ⟨g.os.trans h.os, g.tape.trans h.tape, g.output.trans h.output, Nat.le_trans h.size g.size, fun i hi hne => (g.block i (Nat.lt_of_lt_of_le hi h.size) (fun e => by have := hr i e.symm; omega)).trans (h.block i hi hne)⟩
theorem WayM.row {w w' : World} {b n : Nat} {f : Int → Option Int} (h : WayM w b n f) {row : Option Nat} (g : w.grownBy w' row) (hr : ∀ x, row = some x → x ≠ b) : WayM w' b n f := h.kept (g.block b h.lt (fun e => hr b e.symm rfl))

set_option maxRecDepth 100000 in
set_option maxHeartbeats 4000000 in
theorem step13p_any (N b n0 r cr cn : Nat) (nx : Nat → List Int) (f0 : Int → Option Int) (us : List Nat) (An Ra : Option Addr) (w : World) (hN : N ≤ 1000000) (hn0 : n0 + N ≤ 2000000) (hr : r = us.length)
    (hnx : ∀ u ∈ us, ∀ x ∈ nx u, ∃ v : Nat, v < N ∧ x = (v : Int)) (hnl : ∀ u ∈ us, (nx u).length ≤ 1000000) (hus : ∀ u ∈ us, u < N) (hul : us.length ≤ 1000000)
    (hm : WayM w b n0 f0) (hR : Tr.Rds w w.heap.size Ra (cellsI (us.map fun (n : Nat) => (n : Int)))) (hX : Keys w w.heap.size An ((List.range N).map nx)) :
    Calls Try.prog 53 #[.map (some b), .slice An N cn, .slice Ra r cr] w fun e w' => ∃ v f out, e = .returned v ∧ FoldOk (pairsI nx us) f0 f out ∧ RowAt w' w.heap.size v (sortI out) ∧ WayM w' b (n0 + out.length) f ∧ w.grownBy w' (some b) := by
  subst hr
  obtain ⟨i0, hi, hz0, hz1, hz2⟩ := info_parts intInfo
  have Hi := Lib.hid hi
  have Hz0 := Lib.hid hz0
  have Hz1 := Lib.hid hz1
  have Hz2 := Lib.hid hz2
  clear hi hz0 hz1 hz2
  have HM := Lib.hid hm
  have HR := Lib.hid hR
  have HX := Lib.hid hX
  have HNX := Lib.hid hnx
  have HNL := Lib.hid hnl
  have HUS := Lib.hid hus
  have HN := Lib.hid hN
  have HN0 := Lib.hid hn0
  have HOL : Hid (∀ (L : List (Int × Int)) (f : Int → Option Int) (out : List Int), FoldOk L f0 f out → (∀ p ∈ L, ∃ v : Nat, v < N ∧ p.2 = (v : Int)) → out.length ≤ N) := fun L f out h hL => by
    have hs := sort_those (L := N) (p := fun n => decide ((n : Int) ∈ out)) h.nd fun x => ⟨fun hx => by
      obtain ⟨_, p, hp, rfl⟩ := (h.mem x).1 hx
      obtain ⟨v, hv, e⟩ := hL p hp
      exact ⟨v, hv, decide_eq_true (e ▸ hx), e⟩, fun ⟨n, _, h1, e⟩ => by rw [e]; exact of_decide_eq_true h1⟩
    have h2 := those_len N (fun n => decide ((n : Int) ∈ out))
    rw [← hs, sortI_len] at h2
    exact h2
  clear hm hR hX hnx hnl hus hN hn0
  go_enter Try.func53, Try.ntmps53
  go_wp2_with fail
  go_loopw [7, 14] (fun vo i wr => ∃ (k : Nat) (f : Int → Option Int) (out : List Int) (Ao : Option Addr) (co : Nat), k ≤ us.length ∧ i = .int .i64 k ∧ vo = .slice Ao out.length co ∧ Hid (FoldOk (pairsI nx (us.take k)) f0 f out) ∧ Hid (wr.ownsRow w.heap.size 3 1 (.slice Ao out.length co) out.length (cellsI out)) ∧ Hid (WayM wr b (n0 + out.length) f) ∧ Hid (w.grownBy wr (some b))) (fun _ i _ => us.length - (intOf i).toNat)
  case atStart => exact ⟨0, f0, [], none, 0, Nat.zero_le _, rfl, rfl, FoldOk.start f0, own_nil w _, HM, grown_none w _⟩
  case round =>
    obtain ⟨k, f, out, Ao, co, hk, rfl, rfl, HF, HO, HW, HG⟩ := hrel
    by_cases hlt : k < us.length
    · obtain ⟨ad, hra, hrl, hrc⟩ := HR.out (by simp [cellsI]; omega)
      subst hra
      obtain ⟨u, hu⟩ : ∃ u, u = us[k] := ⟨_, rfl⟩
      have hum : u ∈ us := hu ▸ List.getElem_mem hlt
      have c0 : wr.cell? (ad.add k) = some (.int .i64 (u : Int)) := cellw HM.out HG.out (hrc k _ (by rw [hu]; simp [cellsI, hlt]))
      have huN := HUS.out u hum
      have hr0 : ((List.range N).map nx)[u]? = some (nx u) := by rw [List.getElem?_map, List.getElem?_range huN]; rfl
      obtain ⟨an, hann, hanl, hanc⟩ := HX.out (by simp; omega)
      subst hann
      obtain ⟨Ax, cx, hcx, cx0, hIx⟩ := hanc u (nx u) hr0
      have c1 : wr.cell? (an.add u) = some (.slice Ax (nx u).length cx) := cellw HM.out HG.out cx0
      have d1 : decide ((k : Int) < (us.length : Int)) = true := decide_eq_true (by omega)
      have d2 : decide (k < us.length) = true := decide_eq_true hlt
      have hukN : (u : Int) < (N : Int) := by omega
      have Hnl := HNL.out u hum
      have HTk : Hid (pairsI nx (us.take (k + 1)) = pairsI nx (us.take k) ++ (nx u).map fun w => ((u : Int), w)) := by unfold Hid; rw [List.take_succ_eq_append_getElem hlt, pairsI_snoc, hu]
      have HIx := Lib.hid hIx
      have HNXu := Lib.hid (HNX.out u hum)
      have HLk : Hid (∀ m : Nat, ∀ p ∈ pairsI nx (us.take k) ++ ((nx u).take m).map (fun w => ((u : Int), w)), ∃ v : Nat, v < N ∧ p.2 = (v : Int)) := fun m p hp => by
        rcases List.mem_append.1 hp with hp | hp
        · unfold pairsI at hp
          obtain ⟨y, hy, hp⟩ := List.mem_flatMap.1 hp
          obtain ⟨z, hz, rfl⟩ := List.mem_map.1 hp
          exact HNX.out y (List.mem_of_mem_take hy) z hz
        · obtain ⟨z, hz, rfl⟩ := List.mem_map.1 hp
          exact HNXu.out z (List.mem_of_mem_take hz)
      have hf0 : FoldOk (pairsI nx (us.take k) ++ ((nx u).take 0).map (fun w => ((u : Int), w))) f0 f out := by simpa using HF.out
      have HF0 := Lib.hid hf0
      clear hrc hrl cx0 hanc hanl hr0 hIx hu hcx hf0 HF hum
      go_upto_region 6 with fail
      clear c0 c1 d1 d2
      go_loopw [7, 23] (fun vo i wx => ∃ (m : Nat) (f : Int → Option Int) (out : List Int) (Ao : Option Addr) (co : Nat), m ≤ (nx u).length ∧ i = .int .i64 m ∧ vo = .slice Ao out.length co ∧ Hid (FoldOk (pairsI nx (us.take k) ++ ((nx u).take m).map (fun w => ((u : Int), w))) f0 f out) ∧ Hid (wx.ownsRow w.heap.size 3 1 (.slice Ao out.length co) out.length (cellsI out)) ∧ Hid (WayM wx b (n0 + out.length) f) ∧ Hid (w.grownBy wx (some b))) (fun _ i _ => (nx u).length - (intOf i).toNat)
      case atStart => exact ⟨0, f, out, Ao, co, Nat.zero_le _, rfl, rfl, HF0, HO, HW, HG⟩
      case round =>
        clear HF0 HO HW HG
        obtain ⟨m, f, out, Ao, co, hm, rfl, rfl, HF, HO, HW, HG⟩ := hrel
        by_cases hml : m < (nx u).length
        · obtain ⟨ax, hax, haxl, haxc⟩ := HIx.out (by omega)
          subst hax
          obtain ⟨x, hx⟩ : ∃ x, x = (nx u)[m] := ⟨_, rfl⟩
          obtain ⟨v, hvN, hxv⟩ := HNXu.out x (hx ▸ List.getElem_mem hml)
          have c0 : wr.cell? (ax.add m) = some (.int .i64 (v : Int)) := cellw HM.out HG.out (by rw [haxc m _ (List.getElem?_eq_getElem hml), ← hx, hxv])
          have d1 : decide ((m : Int) < ((nx u).length : Int)) = true := decide_eq_true (by omega)
          have d2 : decide (m < (nx u).length) = true := decide_eq_true hml
          have HTm : Hid (((nx u).take (m + 1)).map (fun w => ((u : Int), w)) = ((nx u).take m).map (fun w => ((u : Int), w)) ++ [((u : Int), (v : Int))]) := by unfold Hid; rw [List.take_succ_eq_append_getElem hml, List.map_append, ← hx, hxv]; rfl
          have hN := HN.out
          have hwv : Wf (v : Int) := by unfold Wf; omega
          have hwu : Wf (u : Int) := by unfold Wf; omega
          have HHas := Lib.hid (has13_any b _ f (v : Int) wr HW.out hwv)
          have hol := HOL.out _ _ _ HF.out (HLk.out m)
          have HPut := Lib.hid (way_put HW.out hwv hwu (by have := HN0.out; omega))
          have HGs : Hid (wr.heap.size ≥ w.heap.size) := HG.out.size
          have hol2 : out.length ≤ 1000000 := by omega
          have HbW : Hid (b < w.heap.size) := HM.out.lt
          clear haxc haxl hx hxv hN hwv hwu hol
          cases hf : (f (v : Int)).isSome
          · have HF2 := Lib.hid (HF.out.new (u : Int) (v : Int) hf)
            obtain ⟨w2, hput, hW2, hg2⟩ := HPut.out
            have HW2 := Lib.hid hW2
            have HG2 := Lib.hid (grown2 HG.out hg2)
            have HO2 := Lib.hid (HO.out.kept hg2 (.inr (fun e => by have := (HO.out.lt _ e).1; have := HbW.out; omega)))
            have qa := (Q.refl w2).alloc (Obj.cells #[.int .i64 (v : Int)] 3)
            have Ho := Lib.hid (row_kept HO2.out qa (Nat.le_refl _))
            have Hsz : Hid (w.heap.size ≤ (w2.alloc (Obj.cells #[.int .i64 (v : Int)] 3)).heap.size) := by have h1 := HG2.out.size; have h2 := qa.size; unfold Hid; omega
            have HQa := Lib.hid qa
            have Hs : Hid (Src (w2.alloc (Obj.cells #[.int .i64 (v : Int)] 3)) (some ⟨w2.heap.size, 0, none⟩) [.int .i64 (v : Int)]) := fun _ => ⟨_, rfl, src1 w2 (.int .i64 (v : Int)) 3⟩
            clear hW2 hg2 qa HPut HO HW HG HF
            go_wp2_with (first
              | (go_at_call 52; refine HHas.out.mono ?_; rintro e wh ⟨rfl, rfl⟩; rw [hf])
              | (at_builtin; refine wpList_append_src _ rfl (.tmp 34) (.tmp 36) _ rfl w.heap.size 3 i0 _ 1 8 Try.underlying24 Hi.out Hz0.out Hz1.out Hz2.out rfl (by omega) _ out.length (cellsI out) rfl Ho.out (some ⟨w2.heap.size, 0, none⟩) 1 1 [.int .i64 (v : Int)] rfl rfl Hs.out (by simp [Value.oneCell']) (by unfold maxLen; omega) (by omega) Hsz.out ?_; intro v' w3 own' gr' hat; obtain ⟨Ao2, co2, rfl, -, -⟩ := own_o own'; have Own := Lib.hid own'; have HGr := Lib.hid gr'; clear own' gr' hat))
            go_roundw
            case rel => exact ⟨m + 1, _, out ++ [(v : Int)], Ao2, co2, by omega, by go_num, by simp, by rw [HTm.out, ← List.append_assoc]; exact HF2, by have h := Own.out; unfold Hid; rw [List.length_append, cellsI_append]; exact h, (by have h := HW2.out.q HQa.out; have h2 := h.row HGr.out (fun x e => by have := (Ho.out.lt x e).1; have := HbW.out; omega); unfold Hid; rw [List.length_append, ← Nat.add_assoc]; exact h2), grown_new (grown_q2 HG2.out HQa.out) HGr.out (fun x e => (Ho.out.lt x e).1)⟩
            case measure => simp [intOf]; omega
          · have HF2 := Lib.hid (HF.out.was (u : Int) (v : Int) hf)
            clear HPut HF
            go_wp2_with (go_at_call 52; refine HHas.out.mono ?_; rintro e wh ⟨rfl, rfl⟩; rw [hf])
            go_roundw
            case rel => exact ⟨m + 1, f, out, Ao, co, by omega, by go_num, rfl, by rw [HTm.out, ← List.append_assoc]; exact HF2, HO, HW, HG⟩
            case measure => simp [intOf]; omega
        · obtain rfl : m = (nx u).length := by omega
          have d1 : decide (((nx u).length : Int) < ((nx u).length : Int)) = false := decide_eq_false (by omega)
          have d2 : decide ((nx u).length < (nx u).length) = false := decide_eq_false (by omega)
          have HF2 : Hid (FoldOk (pairsI nx (us.take (k + 1))) f0 f out) := by have h := HF.out; rw [List.take_length] at h; rw [HTk.out]; exact h
          clear HF
          go_wp2_with fail
          go_roundw
          case rel => exact ⟨k + 1, f, out, Ao, co, by omega, by go_num, rfl, HF2, HO, HW, HG⟩
          case measure => simp [intOf]; omega
    · obtain rfl : k = us.length := by omega
      have d1 : decide ((us.length : Int) < (us.length : Int)) = false := decide_eq_false (by omega)
      have d2 : decide (us.length < us.length) = false := decide_eq_false (by omega)
      rw [List.take_length] at HF
      have HLe : Hid (out.length ≤ 1000000) := by
        have h1 := HOL.out _ _ _ HF.out (fun p hp => by
          unfold pairsI at hp
          obtain ⟨y, hy, hp⟩ := List.mem_flatMap.1 hp
          obtain ⟨z, hz, rfl⟩ := List.mem_map.1 hp
          exact HNX.out y hy z hz)
        have h2 := HN.out
        exact Nat.le_trans h1 h2
      have HRw := Lib.hid (rowAt_of HO.out rfl)
      have HvB : Hid (∀ x, (Value.slice Ao out.length co).ownBlock = some x → w.heap.size ≤ x) := fun x e => (HO.out.lt x e).1
      have HbW : Hid (b < w.heap.size) := HM.out.lt
      go_wp2_with (go_at_call 30; refine (sortI_any w.heap.size _ out wr HRw.out HLe.out).mono ?_; rintro e w4 ⟨rfl, hr4, g4⟩; have HR4 := Lib.hid hr4; have HG4 := Lib.hid g4; clear hr4 g4)
      go_ret
      exact ⟨_, f, out, rfl, HF.out, HR4.out, HW.out.row HG4.out (fun x e => by have := HvB.out x e; have := HbW.out; omega), grown_new HG.out HG4.out (fun x e => HvB.out x e)⟩
end Go.Proofs.Yteccgjhnifdcfaa.Cy

namespace Go.Proofs.Yteccgjhnifdcfaa.Cy
open Go Go.RowKit Go.Maps Go.WideMaps Go.Shelf Kit Uf Ig Tr
open Go.Proofs.Yteccgjhnifdcfaa.Hs (Keys Ints)
open Go.Proofs.Yteccgjhnifdcfaa.Tm (Wf lawI zeroI)
theorem own_new13 (w : World) (v : Value) (t : TypeId) : OwnC (w.alloc (.cells #[v] t)) w.heap.size [v] := ⟨by simp, fun i x hx => by
  match i, hx with
  | 0, hx =>
    obtain rfl : v = x := by simpa using hx
    exact ⟨by simp, by simp⟩⟩

set_option maxRecDepth 100000 in
set_option maxHeartbeats 4000000 in
theorem search13p_any (N s t cn : Nat) (depth : Int) (e : Nat → Nat → Bool) (nx : Nat → List Int) (An : Option Addr) (w : World) (hN : N ≤ 1000) (hs : s < N) (ht : t < N)
    (hnx : ∀ j u, u < N → dl N e s j u = (j : Int) → ∀ x, x ∈ nx u ↔ ∃ v : Nat, v < N ∧ e u v = true ∧ x = (v : Int)) (hnl : ∀ u, u < N → (nx u).length ≤ 1000000) (hX : Keys w w.heap.size An ((List.range N).map nx)) :
    Calls Try.prog 26 #[.slice An N cn, .int .i64 (s : Int), .int .i64 (t : Int), .int .i64 depth] w fun e' w' => ∃ (b n j : Nat), e' = .returned (.map (some b)) ∧ (j : Int) ≤ max depth 0 ∧ ((j : Int) = max depth 0 ∨ (∀ u, u < N → dl N e s j u ≠ (j : Int)) ∨ 0 ≤ dl N e s j t) ∧ WayM w' b n (wayF N e s j) ∧ Q w w' := by
  have HX := Lib.hid hX
  have HNX := Lib.hid hnx
  have HNL := Lib.hid hnl
  have HN := Lib.hid hN
  have HS := Lib.hid hs
  have HT := Lib.hid ht
  have hmm := @run_makeMap Try.prog
  have hws : Wf (s : Int) := by unfold Wf; omega
  have Hws := Lib.hid hws
  have H0 : Hid (∀ x, wayF N e s 0 x = setW (fun _ => none) (s : Int) (s : Int) x) := fun x => by rw [wayF_zero hs]; rfl
  have HR0 : Hid ((reachL N e s 0).map (fun (n : Nat) => (n : Int)) = [(s : Int)]) := by unfold Hid; rw [reach_zero hs]; rfl
  obtain ⟨w1, hput, hW1, hg1⟩ := way_put (way_made w) hws hws (by omega)
  have HW1 := Lib.hid hW1
  have HQ1 : Hid (Q w w1) := q_grown ((Q.refl w).alloc _) hg1 (fun r e => by injection e with e; omega)
  clear hX hnx hnl hN hs ht hws hW1 hg1
  go_enter Try.func26, Try.ntmps26
  go_upto_region 2 with fail
  clear hput hmm
  have HO2 := Lib.hid (own_new13 w1 (.int .i64 (s : Int)) 3)
  have HQ2 := Lib.hid ((Q.refl w1).alloc (.cells #[.int .i64 (s : Int)] 3))
  generalize w1.alloc (.cells #[.int .i64 (s : Int)] 3) = w2 at *
  have HW2 : Hid (WayM w2 w.heap.size 1 (wayF N e s 0)) := (HW1.out.congr H0.out).q HQ2.out
  have HQw2 := Lib.hid (HQ1.out.trans HQ2.out)
  go_wp2_with fail
  go_loopw [10, 18] (fun vr i wr => ∃ (j n cr : Nat) (Ar : Option Addr), i = .int .i64 j ∧ vr = .slice Ar (reachL N e s j).length cr ∧ Hid (n ≤ 1 + N * j) ∧ Hid ((j : Int) ≤ max depth 0) ∧ Hid (Tr.Rds wr wr.heap.size Ar (cellsI ((reachL N e s j).map fun (n : Nat) => (n : Int)))) ∧ Hid (WayM wr w.heap.size n (wayF N e s j)) ∧ Hid (Q w wr)) (fun _ i _ => (depth - intOf i).toNat)
  case atStart => exact ⟨0, 1, _, _, rfl, by rw [reach_zero HS.out]; rfl, by unfold Hid; omega, by unfold Hid; omega, by rw [HR0.out]; exact fun _ => ⟨_, rfl, HO2.out.1, fun i v hv => by rw [Hs.add_zero_head]; exact (HO2.out.2 i v hv).1⟩, HW2, HQw2⟩
  case round =>
    clear HO2 HW2 HQw2
    obtain ⟨j, n, cr, Ar, rfl, rfl, Hn, Hj, HR, HW, HQ⟩ := hrel
    by_cases hjd : (j : Int) < depth
    · have d1 : decide ((j : Int) < depth) = true := decide_eq_true hjd
      by_cases hre : (reachL N e s j).length = 0
      · have e1 : (((reachL N e s j).length : Int) == (0 : Int)) = true := by rw [hre]; rfl
        have hno : ∀ u, u < N → dl N e s j u ≠ (j : Int) := fun u hu hd => by
          have : u ∈ reachL N e s j := by simp [reachL, hu, hd]
          rw [List.eq_nil_of_length_eq_zero hre] at this
          cases this
        have HNo := Lib.hid hno
        clear hre hno
        go_wp2_with fail
        go_ret
        exact ⟨_, n, j, rfl, Hj.out, .inr (.inl HNo.out), HW.out, HQ.out⟩
      · have e1 : (((reachL N e s j).length : Int) == (0 : Int)) = false := beq_eq_false_iff_ne.2 (by omega)
        have hjN : j < N := by
          obtain ⟨u, hu⟩ := List.exists_mem_of_length_pos (Nat.pos_of_ne_zero hre)
          simp only [reachL, List.mem_filter, List.mem_range, decide_eq_true_eq] at hu
          exact dl_many ⟨u, hu.1, hu.2⟩
        have hN := HN.out
        have hT := HT.out
        have HHas := Lib.hid (has13_any w.heap.size n (wayF N e s j) (t : Int) wr HW.out (by unfold Wf; omega))
        have hsome := wayF_isSome (N := N) (e := e) (s := s) j t hT
        have hpos := Nat.pos_of_ne_zero hre
        have hmulN : N * j ≤ 1000 * 1000 := Nat.mul_le_mul hN (by omega)
        have hml : N * (j + 1) = N * j + N := Nat.mul_succ _ _
        have HSt := Lib.hid (step13p_any N w.heap.size n (reachL N e s j).length cr cn nx (wayF N e s j) (reachL N e s j) An Ar wr (by omega) (by have := Hn.out; omega) rfl
          (fun u hu x hx => by
            simp only [reachL, List.mem_filter, List.mem_range, decide_eq_true_eq] at hu
            obtain ⟨v, h1, _, h3⟩ := (HNX.out j u hu.1 hu.2 x).1 hx
            exact ⟨v, h1, h3⟩)
          (fun u hu => by simp only [reachL, List.mem_filter, List.mem_range] at hu; exact HNL.out u hu.1)
          (fun u hu => by simp only [reachL, List.mem_filter, List.mem_range] at hu; exact hu.1)
          (by unfold reachL; have := List.length_filter_le (fun v => decide (dl N e s j v = (j : Int))) (List.range N); rw [List.length_range] at this; omega)
          HW.out HR.out ((HX.out.q (Nat.le_refl _) HQ.out).more HQ.out.size))
        have Hm := Lib.hid (show n + N ≤ 1 + N * (j + 1) by have := Hn.out; omega)
        have HjN := Lib.hid hjN
        have hjb : j ≤ 1000 := by omega
        clear hN hT hpos hre hmulN hml hjN
        cases hf : (wayF N e s j (t : Int)).isSome
        · rw [hf] at hsome
          clear hsome
          go_wp2_with (first
            | (go_at_call 52; refine HHas.out.mono ?_; rintro e' wh ⟨rfl, rfl⟩; rw [hf])
            | (go_at_call 53; refine HSt.out.mono ?_; rintro e' w4 ⟨v4, f4, out4, rfl, hF4, hR4, hW4, hg4⟩; have HF4 := Lib.hid hF4; have HR4 := Lib.hid hR4; have HW4 := Lib.hid hW4; have HG4 := Lib.hid hg4; clear hF4 hR4 hW4 hg4))
          obtain ⟨l1, l2⟩ := level (fun u hu hd => HNX.out j u hu hd) HF4.out
          obtain ⟨A4, c4, rfl, hc4, ho4⟩ := HR4.out
          have hrl : (sortI out4) = (reachL N e s (j + 1)).map fun (n : Nat) => (n : Int) := by rw [l2]; exact reach_those (j + 1)
          have hrl2 : (sortI out4).length = (reachL N e s (j + 1)).length := by rw [hrl, List.length_map]
          have hol : out4.length ≤ N := by rw [← sortI_len out4, l2]; exact those_len _ _
          have hq4 : Q w w4 := q_grown HQ.out HG4.out (fun r e => by injection e with e; omega)
          have Hol := Lib.hid hol
          go_roundw
          case rel => exact ⟨j + 1, n + out4.length, c4, A4, by go_num, by rw [hrl2], by have := Hm.out; have := Hol.out; unfold Hid; omega, by unfold Hid; omega, by rw [← hrl]; exact OwnO.rds ho4, HW4.out.congr (fun x => (l1 x).symm), hq4⟩
          case measure => simp [intOf]; omega
        · rw [hf] at hsome
          have HP := Lib.hid (of_decide_eq_true hsome.symm)
          clear hsome
          go_wp2_with (go_at_call 52; refine HHas.out.mono ?_; rintro e' wh ⟨rfl, rfl⟩; rw [hf])
          go_ret
          exact ⟨_, n, j, rfl, Hj.out, .inr (.inr HP.out), HW.out, HQ.out⟩
    · have d1 : decide ((j : Int) < depth) = false := decide_eq_false hjd
      have HE : Hid ((j : Int) = max depth 0) := by have := Hj.out; unfold Hid; omega
      go_wp2_with fail
      go_ret
      first
        | exact ⟨_, n, j, rfl, Hj.out, .inl HE.out, HW.out, HQ.out⟩
        | exact ⟨_, rfl, n, j, Hj.out, .inl HE.out, HW.out, HQ.out⟩
        | exact ⟨_, rfl, j, Hj.out, .inl HE.out, n, HW.out, HQ.out⟩
end Go.Proofs.Yteccgjhnifdcfaa.Cy

namespace Go.Proofs.Yteccgjhnifdcfaa.Cy
open Go Go.RowKit Go.Maps Go.WideMaps Go.Lib Go.Sort Go.Shelf Kit Uf Ig Tr
open Go.Proofs.Yteccgjhnifdcfaa.Tm (Wf)
theorem reverseI_any (base : Nat) (u : Value) (l : List Int) (w : World) (h : RowAt w base u l) (hl : l.length ≤ 1000000) :
    Calls Try.prog 54 #[u] w fun e w' => e = .returned (.tuple #[]) ∧ RowAt w' base u l.reverse ∧ w.grownBy w' u.ownBlock := by
  obtain ⟨A, c, rfl, hc, ho⟩ := h
  by_cases h0 : 0 < l.length
  · obtain ⟨g, rfl, hg, hO⟩ := ho (by rw [cellsI_len]; exact h0)
    refine (Try.slices_Reverse_int g 0 c l w (row_holds hO) (by omega)).mono ?_
    rintro e w' ⟨rfl, n, rfl⟩
    refine ⟨rfl, ⟨_, c, by rw [List.length_reverse], by rw [List.length_reverse]; exact hc, fun _ => ⟨g, rfl, hg, ?_⟩⟩, ahead_putRow w n g _⟩
    have hp : Holds (Value.int .i64) (putRow (Value.int .i64) (Sort.ahead w n) g 0 l.reverse.toArray) g 0 l.reverse.toArray := holds_putRow _ _ _ _ l.toArray _ (holds_ahead _ _ _ _ _ _ (row_holds hO)) (by simp)
    exact holds_own hp (by simp; exact hO.1)
  · have e0 : l = [] := List.eq_nil_of_length_eq_zero (by omega)
    subst e0
    refine (Try.slices_Reverse_int_empty A c w).mono ?_
    rintro e w' ⟨rfl, rfl⟩
    exact ⟨rfl, ⟨A, c, rfl, hc, fun h => by simp [cellsI] at h⟩, grown_none _ _⟩
theorem row_of_rowAt {w w' : World} {u : Value} {l : List Int} (h : RowAt w' w.heap.size u l) (q : Q w w') : RowPost l w (.returned u) w' := by
  obtain ⟨A, c, rfl, hc, ho⟩ := h
  exact ⟨A, c, rfl, hc, OwnO.rds ho, q⟩
/-- what is laid, i steps having been gone back -/
def outB (B : List Nat) (i : Nat) : List Int := (B.reverse.take (i + 1)).map fun (n : Nat) => (n : Int)
theorem outB_succ {B : List Nat} {d i u : Nat} (hB : B.length = d + 1) (hi : i < d) (hu : B[d - (i + 1)]? = some u) : outB B (i + 1) = outB B i ++ [(u : Int)] := by
  unfold outB
  have h1 : i + 1 < B.reverse.length := by rw [List.length_reverse]; omega
  rw [List.take_succ_eq_append_getElem h1, List.map_append]
  congr 1
  have h2 : B.reverse[i + 1] = u := by
    have h3 : B.reverse[i + 1]? = some u := by
      rw [List.getElem?_reverse (by omega), hB, show d + 1 - 1 - (i + 1) = d - (i + 1) by omega]; exact hu
    rw [List.getElem?_eq_getElem h1] at h3
    injection h3
  rw [h2]; rfl
theorem outB_all {B : List Nat} {d : Nat} (hB : B.length = d + 1) : (outB B d).reverse = B.map fun (n : Nat) => (n : Int) := by
  unfold outB
  rw [List.take_of_length_le (by rw [List.length_reverse]; omega), List.map_reverse, List.reverse_reverse]
theorem outB_len {B : List Nat} {d i : Nat} (hB : B.length = d + 1) (hi : i ≤ d) : (outB B i).length = i + 1 := by
  unfold outB
  rw [List.length_map, List.length_take, List.length_reverse]; omega

theorem own_one13 (w : World) (x : Int) : (w.alloc (.cells #[.int .i64 x] 3)).ownsRow w.heap.size 3 1 (.slice (some ⟨w.heap.size, 0, none⟩) 1 1) 1 (cellsI [x]) :=
  ⟨by simp [cellsI], .inr ⟨w.heap.size, 1, _, rfl, Nat.le_refl _, heap_alloc_new w _, Nat.le_refl _, by unfold maxLen; omega, rfl, rfl⟩⟩
set_option maxRecDepth 100000 in
set_option maxHeartbeats 4000000 in
theorem to13p_any (N s t j b n : Nat) (e : Nat → Nat → Bool) (w : World) (hN : N ≤ 1000) (hs : s < N) (ht : t < N) (hm : WayM w b n (wayF N e s j)) :
    Calls Try.prog 28 #[.map (some b), .int .i64 (t : Int)] w (RowPost ((if 0 ≤ dl N e s j t then back N e (dl N e s j) (dl N e s j t).toNat t else []).map fun (n : Nat) => (n : Int)) w) := by
  have HM := Lib.hid hm
  have HHas := Lib.hid (has13_any b n (wayF N e s j) (t : Int) w hm (by unfold Wf; omega))
  have hsome := wayF_isSome (N := N) (e := e) (s := s) j t ht
  by_cases hd : 0 ≤ dl N e s j t
  · rw [decide_eq_true hd] at hsome
    rw [if_pos hd]
    obtain ⟨d, hdd⟩ := Int.eq_ofNat_of_zero_le hd
    have hdd : dl N e s j t = (d : Int) := hdd
    rw [hdd, Int.toNat_natCast]
    obtain ⟨B, hB⟩ : ∃ B, B = back N e (dl N e s j) d t := ⟨_, rfl⟩
    have hBl : B.length = d + 1 := by rw [hB, back_len]
    -- each on it, and what the map says of it
    have HB : Hid (∀ i, i ≤ d → ∃ u, B[d - i]? = some u ∧ u < N ∧ dl N e s j u = ((d - i : Nat) : Int)) := fun i hi => by
      obtain ⟨u, h1, h2, h3, _⟩ := back_far hdd ht (d - i) (by omega)
      exact ⟨u, by rw [hB]; exact h1, h2, h3⟩
    have HW : Hid (∀ i u, i < d → B[d - i]? = some u → u < N → dl N e s j u = ((d - i : Nat) : Int) → ∃ p, B[d - (i + 1)]? = some p ∧ p < N ∧ dl N e s j p = ((d - (i + 1) : Nat) : Int) ∧ (wayF N e s j (u : Int)).getD 0 = (p : Int)) := fun i u hi hu huN hdu => by
      obtain ⟨u', h1, h2⟩ := back_prev (N := N) (e := e) (D := dl N e s j) d t (i := d - (i + 1)) (by omega)
      rw [← hB, show d - (i + 1) + 1 = d - i by omega, hu] at h1
      injection h1 with h1
      subst h1
      rw [← hB] at h2
      obtain ⟨p, h3, h4, h5⟩ := HB.out (i + 1) (by omega)
      rw [h2] at h3
      injection h3 with h3
      refine ⟨p, by rw [h2, h3], h4, h5, ?_⟩
      unfold wayF
      rw [if_pos ⟨by omega, by omega, by simp only [Int.toNat_natCast]; omega⟩]
      simp only [Int.toNat_natCast]
      rw [if_neg (by omega), hdu, Int.toNat_natCast, show d - i - 1 = d - (i + 1) by omega, h3]
      rfl
    have HS0 : Hid ((wayF N e s j (s : Int)).getD 0 = (s : Int)) := by
      have h0 := dl_self (N := N) (e := e) (s := s) j
      unfold Hid wayF
      rw [if_pos ⟨by omega, by omega, by simp only [Int.toNat_natCast]; omega⟩]
      simp only [Int.toNat_natCast]
      rw [if_pos h0]
      rfl
    have HBl := Lib.hid hBl
    have HB0 : Hid (B[d - 0]? = some t) := by rw [hB]; exact back_last _ _ _
    have HT := Lib.hid ht
    have HS := Lib.hid hs
    have HN := Lib.hid hN
    have Hdd := Lib.hid hdd
    have hdN : d < N := dl_many (N := N) (e := e) (s := s) (k := d) ⟨t, ht, by
      by_cases h : d ≤ j
      · exact (dl_same (Nat.le_refl _) h).2 hdd
      · have := (dl_bound (N := N) (e := e) (s := s) j t).2; omega⟩
    have hdb : d ≤ 1000 := by omega
    obtain ⟨i0, hi, hz0, hz1, hz2⟩ := info_parts intInfo
    have Hi := Lib.hid hi
    have Hz0 := Lib.hid hz0
    have Hz1 := Lib.hid hz1
    have Hz2 := Lib.hid hz2
    have e0 : outB B 0 = [(t : Int)] := by
      unfold outB
      have : B.reverse[0]? = some t := by rw [List.getElem?_reverse (by omega), hBl]; exact HB0.out
      have h1 : 0 < B.reverse.length := by rw [List.length_reverse]; omega
      rw [List.take_succ_eq_append_getElem h1, List.take_zero, List.nil_append]
      rw [List.getElem?_eq_getElem h1] at this
      injection this with this
      rw [this]; rfl
    have HE0 := Lib.hid e0
    rw [← hB]
    clear hi hz0 hz1 hz2 hB hBl hdd hd hdN hN hs ht hm e0
    go_enter Try.func28, Try.ntmps28
    go_upto_region 3 with (go_at_call 52; refine HHas.out.mono ?_; rintro e' wh ⟨rfl, hwh⟩; obtain rfl : w = wh := hwh.symm; rw [hsome])
    go_upto_region 4 with fail
    have qa := (Q.refl w).alloc (.cells #[.int .i64 (t : Int)] 3)
    have Ho0 := Lib.hid (own_one13 w (t : Int))
    have HQa := Lib.hid qa
    clear qa hsome
    generalize w.alloc (.cells #[.int .i64 (t : Int)] 3) = w1 at *
    go_loopw [1, 5] (fun v vo wr => ∃ (i u co : Nat) (Ao : Option Addr), i ≤ d ∧ v = .int .i64 (u : Int) ∧ vo = .slice Ao (i + 1) co ∧ Hid (B[d - i]? = some u) ∧ Hid (u < N) ∧ Hid (dl N e s j u = ((d - i : Nat) : Int)) ∧ Hid (wr.ownsRow w.heap.size 3 1 (.slice Ao (i + 1) co) (i + 1) (cellsI (outB B i))) ∧ Hid (Q w wr)) (fun v _ _ => (dl N e s j (intOf v).toNat).toNat)
    case atStart => exact ⟨0, t, 1, _, Nat.zero_le _, rfl, rfl, HB0, HT, Hdd, by rw [HE0.out]; exact Ho0.out, HQa⟩
    case round =>
      clear Ho0 HQa
      obtain ⟨i, u, co, Ao, hi, rfl, rfl, Hu, HuN, Hdu, HO, HQ⟩ := hrel
      have HMr := Lib.hid (HM.out.q HQ.out)
      have hwu : Wf (u : Int) := by have := HuN.out; have := HN.out; unfold Wf; omega
      have hlook := way_look HMr.out hwu
      by_cases hid : i < d
      · obtain ⟨p, h1, h2, h3, h4⟩ := HW.out i u hid Hu.out HuN.out Hdu.out
        rw [h4] at hlook
        have hne : p ≠ u := fun e => by rw [e, Hdu.out] at h3; omega
        have e1 : ((p : Int) != (u : Int)) = true := by simp; omega
        have HP1 := Lib.hid h1
        have HP2 := Lib.hid h2
        have HP3 := Lib.hid h3
        have HOs := Lib.hid (outB_succ HBl.out hid h1)
        have qa := (Q.refl wr).alloc (Obj.cells #[.int .i64 (p : Int)] 3)
        have Ho := Lib.hid (row_kept HO.out qa (Nat.le_refl _))
        have HQa := Lib.hid (HQ.out.trans qa)
        have Hs : Hid (Src (wr.alloc (Obj.cells #[.int .i64 (p : Int)] 3)) (some ⟨wr.heap.size, 0, none⟩) [.int .i64 (p : Int)]) := fun _ => ⟨_, rfl, src1 wr (.int .i64 (p : Int)) 3⟩
        have Hmu : Hid ((dl N e s j p).toNat < (dl N e s j u).toNat) := by have := Hdu.out; unfold Hid; omega
        clear h1 h2 h3 h4 hne qa HO HQ hwu
        go_wp2_with (at_builtin; refine wpList_append_src _ rfl (.tmp 20) (.tmp 22) _ rfl w.heap.size 3 i0 _ 1 8 Try.underlying24 Hi.out Hz0.out Hz1.out Hz2.out rfl (by omega) _ (i + 1) (cellsI (outB B i)) rfl Ho.out (some ⟨wr.heap.size, 0, none⟩) 1 1 [.int .i64 (p : Int)] rfl rfl Hs.out (by simp [Value.oneCell']) (by unfold maxLen; omega) (by omega) HQa.out.size ?_; intro v' w3 own' gr' hat; obtain ⟨Ao2, co2, rfl, -, -⟩ := own_o own'; have Own := Lib.hid own'; have HQ3 : Hid (Q w w3) := Below.grown HQa.out gr' HQa.out.size (fun k e => (Ho.out.lt k e).1); clear own' gr' hat)
        go_roundw
        case rel => exact ⟨i + 1, p, co2, Ao2, by omega, rfl, rfl, HP1, HP2, HP3, by unfold Hid; rw [HOs.out, cellsI_append]; exact Own.out, HQ3⟩
        case measure => simpa [intOf] using Hmu.out
      · obtain rfl : i = d := by omega
        have hd0 : dl N e s j u = 0 := by rw [Hdu.out]; simp
        obtain rfl : u = s := dl_zero (k := j) hd0
        rw [HS0.out] at hlook
        have e1 : ((u : Int) != (u : Int)) = false := by simp
        have HR : Hid (RowAt wr w.heap.size (.slice Ao (i + 1) co) (outB B i)) := rowAt_of HO.out (outB_len HBl.out (Nat.le_refl _)).symm
        have HLe : Hid ((outB B i).length ≤ 1000000) := by unfold Hid; rw [outB_len HBl.out (Nat.le_refl _)]; omega
        have HvB : Hid (∀ x, (Value.slice Ao (i + 1) co).ownBlock = some x → w.heap.size ≤ x) := fun x e => (HO.out.lt x e).1
        clear hd0 hwu
        go_wp2_with (go_at_call 54; refine (reverseI_any w.heap.size _ _ wr HR.out HLe.out).mono ?_; rintro e' w4 ⟨rfl, hr4, g4⟩; have HR4 := Lib.hid hr4; have HG4 := Lib.hid g4; clear hr4 g4)
        go_ret
        have hr := HR4.out
        rw [outB_all HBl.out] at hr
        exact row_of_rowAt hr (q_grown HQ.out HG4.out (fun x e => HvB.out x e))
  · rw [decide_eq_false hd] at hsome
    rw [if_neg hd]
    clear hd
    go_enter Try.func28, Try.ntmps28
    go_wp2_with (go_at_call 52; refine HHas.out.mono ?_; rintro e' wh ⟨rfl, rfl⟩; rw [hsome])
    go_ret
    exact ⟨none, 0, rfl, Nat.le_refl _, fun h => by simp [cellsI] at h, Q.refl _⟩
end Go.Proofs.Yteccgjhnifdcfaa.Cy

namespace Go.Proofs.Yteccgjhnifdcfaa.Cy
open Go Go.RowKit Kit Uf Ig Tr
open Go.Proofs.Yteccgjhnifdcfaa.Hs (Keys Ints BoxT)
end Go.Proofs.Yteccgjhnifdcfaa.Cy

namespace Go.Proofs.Yteccgjhnifdcfaa.Cy
open Go Go.RowKit Kit Uf Ig Tr
open Go.Proofs.Yteccgjhnifdcfaa.Hs (Keys Ints BoxT)
end Go.Proofs.Yteccgjhnifdcfaa.Cy

namespace Go.Proofs.Yteccgjhnifdcfaa.Cy
open Go Go.RowKit Kit Uf Ig Tr

/-- are all of a row among the first m? -/
def thereL (m : Nat) (l : List Int) : Bool := l.all fun x => decide (0 ≤ x) && decide (x < (m : Int))
theorem thereL_no {m : Nat} {l : List Int} {k : Nat} (hk : k < l.length) (h : (decide (0 ≤ l[k]) && decide (l[k] < (m : Int))) = false) : thereL m l = false := by
  unfold thereL
  rw [List.all_eq_false]
  exact ⟨l[k], List.getElem_mem hk, by rw [h]; simp⟩
theorem thereL_yes {m : Nat} {l : List Int} (h : ∀ k (hk : k < l.length), k < l.length → (decide (0 ≤ l[k]) && decide (l[k] < (m : Int))) = true) : thereL m l = true := by
  unfold thereL
  rw [List.all_eq_true]
  intro x hx
  obtain ⟨k, hk, rfl⟩ := List.getElem_of_mem hx
  exact h k hk hk
set_option maxRecDepth 100000 in
set_option maxHeartbeats 4000000 in
theorem refThere13_any (l : List Int) (L Av : Option Addr) (n cl m k1 : Nat) (vr vb vc vp vt : Value) (w : World) (hn : n = l.length) (hr : Tr.Rds w w.heap.size L (cellsI l)) (hl : l.length ≤ 2305843009213693951) :
    Calls Try.prog 8 #[.agg #[vr, .slice Av m k1, vb, vc, vp, vt], .slice L n cl] w fun e w' => e = .returned (.bool (thereL m l)) ∧ Q w w' := by
  subst hn
  have HBg := Lib.hid (Box6.new w (vr) (.slice Av m k1) (vb) (vc) (vp) (vt) 31)
  have HQ0 := Lib.hid ((Q.refl w).alloc (Obj.cells #[vr, .slice Av m k1, vb, vc, vp, vt] 31))
  have HR := Lib.hid (hr.q ((Q.refl w).alloc (Obj.cells #[vr, .slice Av m k1, vb, vc, vp, vt] 31)))
  clear hr
  go_enter Try.func8, Try.ntmps8
  go_wp2_with fail
  generalize w.alloc (Obj.cells #[vr, .slice Av m k1, vb, vc, vp, vt] 31) = W0 at *
  go_loopw [5] (fun i wr => ∃ k : Nat, k ≤ l.length ∧ i = .int .i64 k ∧ Hid (∀ j (h : j < l.length), j < k → (decide (0 ≤ l[j]) && decide (l[j] < (m : Int))) = true) ∧ Hid (Q W0 wr)) (fun i _ => l.length - (intOf i).toNat)
  case atStart => exact ⟨0, Nat.zero_le _, rfl, Lib.hid (fun j h hj => absurd hj (by omega)), Lib.hid (Q.refl _)⟩
  case round =>
    obtain ⟨k, hkl, rfl, HN, HQr⟩ := hrel
    have s1 := (HBg.out.q HQr.out).c1
    by_cases hlt : k < l.length
    · obtain ⟨lad, hla, hlb, r0⟩ := (HR.out.q HQr.out).int_at hlt
      subst hla
      have d1 : decide ((k : Int) < (l.length : Int)) = true := decide_eq_true (by omega)
      have d2 : decide (k < l.length) = true := decide_eq_true hlt
      have j3 : (k : Int) < (l.length : Int) := by omega
      have j4 : (0 : Int) ≤ (k : Int) := Int.natCast_nonneg _
      have HNo := Lib.hid (thereL_no (m := m) hlt)
      have HY : Hid ((decide (0 ≤ l[k]) && decide (l[k] < (m : Int))) = true → ∀ j (h : j < l.length), j < k + 1 → (decide (0 ≤ l[j]) && decide (l[j] < (m : Int))) = true) := fun he j h hj => by
        by_cases e : j = k
        · subst e; exact he
        · exact HN.out j h (by omega)
      clear hlb
      by_cases h0 : l[k] < 0
      · have e5 : decide (l[k] < 0) = true := decide_eq_true h0
        have HT : Hid (thereL m l = false) := HNo.out (by rw [decide_eq_false (by omega)]; rfl)
        clear h0 HNo HY
        go_upto_region 4 with fail
        clear d1 d2
        refine wp_region_held_drew (S := fun U => U.cell? ⟨w.heap.size, 1, none⟩ = some (.slice Av m k1) ∧ U.cell? (lad.add k) = some (.int .i64 l[k])) (by kernel_rfl) ?_ (fun hHeld => ?_)
        · exact ⟨s1, r0⟩
        refine take_w (i := 0) (d := some 12) (v := ?_) rfl (by kernel_rfl) (by kernel_rfl) (by kernel_rfl) (fun _ _ _ h => h) rfl (by rfl) ?_ (by assumption) ?_
        rotate_left
        · (intro w hSw; (try dsimp only at hSw); go_simp; (try with_reducible rfl))
        try simp only [Act.put, List.setIfInBounds_toArray, List.set_cons_zero, List.set_cons_succ]
        refine take_w (i := 1) (d := some 13) (v := ?_) rfl (by kernel_rfl) (by kernel_rfl) (by kernel_rfl) (fun _ _ _ h => h) rfl (by rfl) ?_ (by assumption) ?_
        rotate_left
        · (intro w hSw; (try dsimp only at hSw); go_simp; (try with_reducible rfl))
        try simp only [Act.put, List.setIfInBounds_toArray, List.set_cons_zero, List.set_cons_succ]
        refine take_w (i := 2) (d := some 14) (v := ?_) rfl (by kernel_rfl) (by kernel_rfl) (by kernel_rfl) (fun _ _ _ h => h) rfl (by rfl) ?_ (by assumption) ?_
        rotate_left
        · (intro w hSw; (try dsimp only at hSw); go_simp; (try with_reducible rfl))
        try simp only [Act.put, List.setIfInBounds_toArray, List.set_cons_zero, List.set_cons_succ]
        refine take_w (i := 3) (d := some 15) (v := ?_) rfl (by kernel_rfl) (by kernel_rfl) (by kernel_rfl) (fun _ _ _ h => h) rfl (by rfl) ?_ (by assumption) ?_
        rotate_left
        · (intro w hSw; (try dsimp only at hSw); go_simp; (try with_reducible rfl))
        try simp only [Act.put, List.setIfInBounds_toArray, List.set_cons_zero, List.set_cons_succ]
        refine take_w (i := 4) (d := some 16) (v := ?_) rfl (by kernel_rfl) (by kernel_rfl) (by kernel_rfl) (fun _ _ _ h => h) rfl (by rfl) ?_ (by assumption) ?_
        rotate_left
        · (intro w hSw; (try dsimp only at hSw); go_simp; (try with_reducible rfl))
        try simp only [Act.put, List.setIfInBounds_toArray, List.set_cons_zero, List.set_cons_succ]
        refine take_w (i := 5) (d := some 17) (v := ?_) rfl (by kernel_rfl) (by kernel_rfl) (by kernel_rfl) (fun _ _ _ h => h) rfl (by rfl) ?_ (by assumption) ?_
        rotate_left
        · (intro w hSw; (try dsimp only at hSw); go_simp; (try with_reducible rfl))
        try simp only [Act.put, List.setIfInBounds_toArray, List.set_cons_zero, List.set_cons_succ]
        refine take_u (i := 6) (d := some 18) rfl (by kernel_rfl) (by kernel_rfl) (by kernel_rfl) (fun _ _ _ h => h) rfl (by rfl) (by assumption) ?_
        try simp only [Act.put, List.setIfInBounds_toArray, List.set_cons_zero, List.set_cons_succ]
        refine take_u (i := 7) (d := some 19) rfl (by kernel_rfl) (by kernel_rfl) (by kernel_rfl) (fun _ _ _ h => h) rfl (by rfl) (by assumption) ?_
        try simp only [Act.put, List.setIfInBounds_toArray, List.set_cons_zero, List.set_cons_succ]
        refine take_u (i := 8) (d := some 20) rfl (by kernel_rfl) (by kernel_rfl) (by kernel_rfl) (fun _ _ _ h => h) rfl (by rfl) (by assumption) ?_
        try simp only [Act.put, List.setIfInBounds_toArray, List.set_cons_zero, List.set_cons_succ]
        refine take_u (i := 9) (d := some 21) rfl (by kernel_rfl) (by kernel_rfl) (by kernel_rfl) (fun _ _ _ h => h) rfl (by rfl) (by assumption) ?_
        try simp only [Act.put, List.setIfInBounds_toArray, List.set_cons_zero, List.set_cons_succ]
        refine take_u (i := 10) (d := some 22) rfl (by kernel_rfl) (by kernel_rfl) (by kernel_rfl) (fun _ _ _ h => h) rfl (by rfl) (by assumption) ?_
        try simp only [Act.put, List.setIfInBounds_toArray, List.set_cons_zero, List.set_cons_succ]
        refine take_u (i := 11) (d := some 23) rfl (by kernel_rfl) (by kernel_rfl) (by kernel_rfl) (fun _ _ _ h => h) rfl (by rfl) (by assumption) ?_
        try simp only [Act.put, List.setIfInBounds_toArray, List.set_cons_zero, List.set_cons_succ]
        refine take_u (i := 12) (d := some 24) rfl (by kernel_rfl) (by kernel_rfl) (by kernel_rfl) (fun _ _ _ h => h) rfl (by rfl) (by assumption) ?_
        try simp only [Act.put, List.setIfInBounds_toArray, List.set_cons_zero, List.set_cons_succ]
        refine take_u (i := 13) (d := some 25) rfl (by kernel_rfl) (by kernel_rfl) (by kernel_rfl) (fun _ _ _ h => h) rfl (by rfl) (by assumption) ?_
        try simp only [Act.put, List.setIfInBounds_toArray, List.set_cons_zero, List.set_cons_succ]
        refine take_u (i := 14) (d := some 26) rfl (by kernel_rfl) (by kernel_rfl) (by kernel_rfl) (fun _ _ _ h => h) rfl (by rfl) (by assumption) ?_
        try simp only [Act.put, List.setIfInBounds_toArray, List.set_cons_zero, List.set_cons_succ]
        refine take_w (i := 15) (d := some 27) (v := ?_) rfl (by kernel_rfl) (by kernel_rfl) (by kernel_rfl) (fun _ _ _ h => h) rfl (by rfl) ?_ (by assumption) ?_
        rotate_left
        · (intro w hSw; (try dsimp only at hSw); go_simp; (try with_reducible rfl))
        try simp only [Act.put, List.setIfInBounds_toArray, List.set_cons_zero, List.set_cons_succ]
        refine wpAnyH_done (by kernel_rfl) ?_ _
        go_wp2_with fail
        go_ret
        exact ⟨by rw [HT.out]; rfl, HQ0.out.trans HQr.out.drew⟩
      · have e5 : decide (l[k] < 0) = false := decide_eq_false h0
        by_cases h1 : (m : Int) ≤ l[k]
        · have e6 : decide ((m : Int) ≤ l[k]) = true := decide_eq_true h1
          have HT : Hid (thereL m l = false) := HNo.out (by rw [decide_eq_false (by omega : ¬ l[k] < (m : Int)), Bool.and_false])
          clear h0 h1 HNo HY
          go_upto_region 4 with fail
          clear d1 d2
          refine wp_region_held_drew (S := fun U => U.cell? ⟨w.heap.size, 1, none⟩ = some (.slice Av m k1) ∧ U.cell? (lad.add k) = some (.int .i64 l[k])) (by kernel_rfl) ?_ (fun hHeld => ?_)
          · exact ⟨s1, r0⟩
          refine take_w (i := 0) (d := some 12) (v := ?_) rfl (by kernel_rfl) (by kernel_rfl) (by kernel_rfl) (fun _ _ _ h => h) rfl (by rfl) ?_ (by assumption) ?_
          rotate_left
          · (intro w hSw; (try dsimp only at hSw); go_simp; (try with_reducible rfl))
          try simp only [Act.put, List.setIfInBounds_toArray, List.set_cons_zero, List.set_cons_succ]
          refine take_w (i := 1) (d := some 13) (v := ?_) rfl (by kernel_rfl) (by kernel_rfl) (by kernel_rfl) (fun _ _ _ h => h) rfl (by rfl) ?_ (by assumption) ?_
          rotate_left
          · (intro w hSw; (try dsimp only at hSw); go_simp; (try with_reducible rfl))
          try simp only [Act.put, List.setIfInBounds_toArray, List.set_cons_zero, List.set_cons_succ]
          refine take_w (i := 2) (d := some 14) (v := ?_) rfl (by kernel_rfl) (by kernel_rfl) (by kernel_rfl) (fun _ _ _ h => h) rfl (by rfl) ?_ (by assumption) ?_
          rotate_left
          · (intro w hSw; (try dsimp only at hSw); go_simp; (try with_reducible rfl))
          try simp only [Act.put, List.setIfInBounds_toArray, List.set_cons_zero, List.set_cons_succ]
          refine take_w (i := 3) (d := some 15) (v := ?_) rfl (by kernel_rfl) (by kernel_rfl) (by kernel_rfl) (fun _ _ _ h => h) rfl (by rfl) ?_ (by assumption) ?_
          rotate_left
          · (intro w hSw; (try dsimp only at hSw); go_simp; (try with_reducible rfl))
          try simp only [Act.put, List.setIfInBounds_toArray, List.set_cons_zero, List.set_cons_succ]
          refine take_w (i := 4) (d := some 16) (v := ?_) rfl (by kernel_rfl) (by kernel_rfl) (by kernel_rfl) (fun _ _ _ h => h) rfl (by rfl) ?_ (by assumption) ?_
          rotate_left
          · (intro w hSw; (try dsimp only at hSw); go_simp; (try with_reducible rfl))
          try simp only [Act.put, List.setIfInBounds_toArray, List.set_cons_zero, List.set_cons_succ]
          refine take_w (i := 5) (d := some 17) (v := ?_) rfl (by kernel_rfl) (by kernel_rfl) (by kernel_rfl) (fun _ _ _ h => h) rfl (by rfl) ?_ (by assumption) ?_
          rotate_left
          · (intro w hSw; (try dsimp only at hSw); go_simp; (try with_reducible rfl))
          try simp only [Act.put, List.setIfInBounds_toArray, List.set_cons_zero, List.set_cons_succ]
          refine take_w (i := 6) (d := some 18) (v := ?_) rfl (by kernel_rfl) (by kernel_rfl) (by kernel_rfl) (fun _ _ _ h => h) rfl (by rfl) ?_ (by assumption) ?_
          rotate_left
          · (intro w hSw; (try dsimp only at hSw); go_simp; (try with_reducible rfl))
          try simp only [Act.put, List.setIfInBounds_toArray, List.set_cons_zero, List.set_cons_succ]
          refine take_w (i := 7) (d := some 19) (v := ?_) rfl (by kernel_rfl) (by kernel_rfl) (by kernel_rfl) (fun _ _ _ h => h) rfl (by rfl) ?_ (by assumption) ?_
          rotate_left
          · (intro w hSw; (try dsimp only at hSw); go_simp; (try with_reducible rfl))
          try simp only [Act.put, List.setIfInBounds_toArray, List.set_cons_zero, List.set_cons_succ]
          refine take_w (i := 8) (d := some 20) (v := ?_) rfl (by kernel_rfl) (by kernel_rfl) (by kernel_rfl) (fun _ _ _ h => h) rfl (by rfl) ?_ (by assumption) ?_
          rotate_left
          · (intro w hSw; (try dsimp only at hSw); go_simp; (try with_reducible rfl))
          try simp only [Act.put, List.setIfInBounds_toArray, List.set_cons_zero, List.set_cons_succ]
          refine take_w (i := 9) (d := some 21) (v := ?_) rfl (by kernel_rfl) (by kernel_rfl) (by kernel_rfl) (fun _ _ _ h => h) rfl (by rfl) ?_ (by assumption) ?_
          rotate_left
          · (intro w hSw; (try dsimp only at hSw); go_simp; (try with_reducible rfl))
          try simp only [Act.put, List.setIfInBounds_toArray, List.set_cons_zero, List.set_cons_succ]
          refine take_w (i := 10) (d := some 22) (v := ?_) rfl (by kernel_rfl) (by kernel_rfl) (by kernel_rfl) (fun _ _ _ h => h) rfl (by rfl) ?_ (by assumption) ?_
          rotate_left
          · (intro w hSw; (try dsimp only at hSw); go_simp; (try with_reducible rfl))
          try simp only [Act.put, List.setIfInBounds_toArray, List.set_cons_zero, List.set_cons_succ]
          refine take_w (i := 11) (d := some 23) (v := ?_) rfl (by kernel_rfl) (by kernel_rfl) (by kernel_rfl) (fun _ _ _ h => h) rfl (by rfl) ?_ (by assumption) ?_
          rotate_left
          · (intro w hSw; (try dsimp only at hSw); go_simp; (try with_reducible rfl))
          try simp only [Act.put, List.setIfInBounds_toArray, List.set_cons_zero, List.set_cons_succ]
          refine take_w (i := 12) (d := some 24) (v := ?_) rfl (by kernel_rfl) (by kernel_rfl) (by kernel_rfl) (fun _ _ _ h => h) rfl (by rfl) ?_ (by assumption) ?_
          rotate_left
          · (intro w hSw; (try dsimp only at hSw); go_simp; (try with_reducible rfl))
          try simp only [Act.put, List.setIfInBounds_toArray, List.set_cons_zero, List.set_cons_succ]
          refine take_w (i := 13) (d := some 25) (v := ?_) rfl (by kernel_rfl) (by kernel_rfl) (by kernel_rfl) (fun _ _ _ h => h) rfl (by rfl) ?_ (by assumption) ?_
          rotate_left
          · (intro w hSw; (try dsimp only at hSw); go_simp; (try with_reducible rfl))
          try simp only [Act.put, List.setIfInBounds_toArray, List.set_cons_zero, List.set_cons_succ]
          refine take_w (i := 14) (d := some 26) (v := ?_) rfl (by kernel_rfl) (by kernel_rfl) (by kernel_rfl) (fun _ _ _ h => h) rfl (by rfl) ?_ (by assumption) ?_
          rotate_left
          · (intro w hSw; (try dsimp only at hSw); go_simp; (try with_reducible rfl))
          try simp only [Act.put, List.setIfInBounds_toArray, List.set_cons_zero, List.set_cons_succ]
          refine take_w (i := 15) (d := some 27) (v := ?_) rfl (by kernel_rfl) (by kernel_rfl) (by kernel_rfl) (fun _ _ _ h => h) rfl (by rfl) ?_ (by assumption) ?_
          rotate_left
          · (intro w hSw; (try dsimp only at hSw); go_simp; (try with_reducible rfl))
          try simp only [Act.put, List.setIfInBounds_toArray, List.set_cons_zero, List.set_cons_succ]
          refine wpAnyH_done (by kernel_rfl) ?_ _
          go_wp2_with fail
          go_ret
          exact ⟨by rw [HT.out]; rfl, HQ0.out.trans HQr.out.drew⟩
        · have e6 : decide ((m : Int) ≤ l[k]) = false := decide_eq_false h1
          have HN2 := Lib.hid (HY.out (by rw [decide_eq_true (by omega), decide_eq_true (by omega)]; rfl))
          clear h0 h1 HNo HY
          go_upto_region 4 with fail
          clear d1 d2
          refine wp_region_held_drew (S := fun U => U.cell? ⟨w.heap.size, 1, none⟩ = some (.slice Av m k1) ∧ U.cell? (lad.add k) = some (.int .i64 l[k])) (by kernel_rfl) ?_ (fun hHeld => ?_)
          · exact ⟨s1, r0⟩
          refine take_w (i := 0) (d := some 12) (v := ?_) rfl (by kernel_rfl) (by kernel_rfl) (by kernel_rfl) (fun _ _ _ h => h) rfl (by rfl) ?_ (by assumption) ?_
          rotate_left
          · (intro w hSw; (try dsimp only at hSw); go_simp; (try with_reducible rfl))
          try simp only [Act.put, List.setIfInBounds_toArray, List.set_cons_zero, List.set_cons_succ]
          refine take_w (i := 1) (d := some 13) (v := ?_) rfl (by kernel_rfl) (by kernel_rfl) (by kernel_rfl) (fun _ _ _ h => h) rfl (by rfl) ?_ (by assumption) ?_
          rotate_left
          · (intro w hSw; (try dsimp only at hSw); go_simp; (try with_reducible rfl))
          try simp only [Act.put, List.setIfInBounds_toArray, List.set_cons_zero, List.set_cons_succ]
          refine take_w (i := 2) (d := some 14) (v := ?_) rfl (by kernel_rfl) (by kernel_rfl) (by kernel_rfl) (fun _ _ _ h => h) rfl (by rfl) ?_ (by assumption) ?_
          rotate_left
          · (intro w hSw; (try dsimp only at hSw); go_simp; (try with_reducible rfl))
          try simp only [Act.put, List.setIfInBounds_toArray, List.set_cons_zero, List.set_cons_succ]
          refine take_w (i := 3) (d := some 15) (v := ?_) rfl (by kernel_rfl) (by kernel_rfl) (by kernel_rfl) (fun _ _ _ h => h) rfl (by rfl) ?_ (by assumption) ?_
          rotate_left
          · (intro w hSw; (try dsimp only at hSw); go_simp; (try with_reducible rfl))
          try simp only [Act.put, List.setIfInBounds_toArray, List.set_cons_zero, List.set_cons_succ]
          refine take_w (i := 4) (d := some 16) (v := ?_) rfl (by kernel_rfl) (by kernel_rfl) (by kernel_rfl) (fun _ _ _ h => h) rfl (by rfl) ?_ (by assumption) ?_
          rotate_left
          · (intro w hSw; (try dsimp only at hSw); go_simp; (try with_reducible rfl))
          try simp only [Act.put, List.setIfInBounds_toArray, List.set_cons_zero, List.set_cons_succ]
          refine take_w (i := 5) (d := some 17) (v := ?_) rfl (by kernel_rfl) (by kernel_rfl) (by kernel_rfl) (fun _ _ _ h => h) rfl (by rfl) ?_ (by assumption) ?_
          rotate_left
          · (intro w hSw; (try dsimp only at hSw); go_simp; (try with_reducible rfl))
          try simp only [Act.put, List.setIfInBounds_toArray, List.set_cons_zero, List.set_cons_succ]
          refine take_w (i := 6) (d := some 18) (v := ?_) rfl (by kernel_rfl) (by kernel_rfl) (by kernel_rfl) (fun _ _ _ h => h) rfl (by rfl) ?_ (by assumption) ?_
          rotate_left
          · (intro w hSw; (try dsimp only at hSw); go_simp; (try with_reducible rfl))
          try simp only [Act.put, List.setIfInBounds_toArray, List.set_cons_zero, List.set_cons_succ]
          refine take_w (i := 7) (d := some 19) (v := ?_) rfl (by kernel_rfl) (by kernel_rfl) (by kernel_rfl) (fun _ _ _ h => h) rfl (by rfl) ?_ (by assumption) ?_
          rotate_left
          · (intro w hSw; (try dsimp only at hSw); go_simp; (try with_reducible rfl))
          try simp only [Act.put, List.setIfInBounds_toArray, List.set_cons_zero, List.set_cons_succ]
          refine take_w (i := 8) (d := some 20) (v := ?_) rfl (by kernel_rfl) (by kernel_rfl) (by kernel_rfl) (fun _ _ _ h => h) rfl (by rfl) ?_ (by assumption) ?_
          rotate_left
          · (intro w hSw; (try dsimp only at hSw); go_simp; (try with_reducible rfl))
          try simp only [Act.put, List.setIfInBounds_toArray, List.set_cons_zero, List.set_cons_succ]
          refine take_w (i := 9) (d := some 21) (v := ?_) rfl (by kernel_rfl) (by kernel_rfl) (by kernel_rfl) (fun _ _ _ h => h) rfl (by rfl) ?_ (by assumption) ?_
          rotate_left
          · (intro w hSw; (try dsimp only at hSw); go_simp; (try with_reducible rfl))
          try simp only [Act.put, List.setIfInBounds_toArray, List.set_cons_zero, List.set_cons_succ]
          refine take_w (i := 10) (d := some 22) (v := ?_) rfl (by kernel_rfl) (by kernel_rfl) (by kernel_rfl) (fun _ _ _ h => h) rfl (by rfl) ?_ (by assumption) ?_
          rotate_left
          · (intro w hSw; (try dsimp only at hSw); go_simp; (try with_reducible rfl))
          try simp only [Act.put, List.setIfInBounds_toArray, List.set_cons_zero, List.set_cons_succ]
          refine take_w (i := 11) (d := some 23) (v := ?_) rfl (by kernel_rfl) (by kernel_rfl) (by kernel_rfl) (fun _ _ _ h => h) rfl (by rfl) ?_ (by assumption) ?_
          rotate_left
          · (intro w hSw; (try dsimp only at hSw); go_simp; (try with_reducible rfl))
          try simp only [Act.put, List.setIfInBounds_toArray, List.set_cons_zero, List.set_cons_succ]
          refine take_w (i := 12) (d := some 24) (v := ?_) rfl (by kernel_rfl) (by kernel_rfl) (by kernel_rfl) (fun _ _ _ h => h) rfl (by rfl) ?_ (by assumption) ?_
          rotate_left
          · (intro w hSw; (try dsimp only at hSw); go_simp; (try with_reducible rfl))
          try simp only [Act.put, List.setIfInBounds_toArray, List.set_cons_zero, List.set_cons_succ]
          refine take_w (i := 13) (d := some 25) (v := ?_) rfl (by kernel_rfl) (by kernel_rfl) (by kernel_rfl) (fun _ _ _ h => h) rfl (by rfl) ?_ (by assumption) ?_
          rotate_left
          · (intro w hSw; (try dsimp only at hSw); go_simp; (try with_reducible rfl))
          try simp only [Act.put, List.setIfInBounds_toArray, List.set_cons_zero, List.set_cons_succ]
          refine take_w (i := 14) (d := some 26) (v := ?_) rfl (by kernel_rfl) (by kernel_rfl) (by kernel_rfl) (fun _ _ _ h => h) rfl (by rfl) ?_ (by assumption) ?_
          rotate_left
          · (intro w hSw; (try dsimp only at hSw); go_simp; (try with_reducible rfl))
          try simp only [Act.put, List.setIfInBounds_toArray, List.set_cons_zero, List.set_cons_succ]
          refine take_w (i := 15) (d := some 27) (v := ?_) rfl (by kernel_rfl) (by kernel_rfl) (by kernel_rfl) (fun _ _ _ h => h) rfl (by rfl) ?_ (by assumption) ?_
          rotate_left
          · (intro w hSw; (try dsimp only at hSw); go_simp; (try with_reducible rfl))
          try simp only [Act.put, List.setIfInBounds_toArray, List.set_cons_zero, List.set_cons_succ]
          refine wpAnyH_done (by kernel_rfl) ?_ _
          go_wp2_with fail
          go_roundw
          case rel => exact ⟨k + 1, by omega, by go_num, HN2, Lib.hid HQr.out.drew⟩
          case measure => simp [intOf]; omega
    · obtain rfl : k = l.length := by omega
      have d1 : decide ((l.length : Int) < (l.length : Int)) = false := decide_eq_false (by omega)
      have d2 : decide (l.length < l.length) = false := decide_eq_false (by omega)
      have HT : Hid (thereL m l = true) := thereL_yes HN.out
      go_wp2_with fail
      go_ret
      exact ⟨by rw [HT.out]; rfl, HQ0.out.trans HQr.out⟩
end Go.Proofs.Yteccgjhnifdcfaa.Cy

namespace Go.Proofs.Yteccgjhnifdcfaa.Cy
open Go Go.RowKit Kit Uf Ig Tr
open Go.Proofs.Yteccgjhnifdcfaa.Hs (Keys Ints BoxT OwnI)
end Go.Proofs.Yteccgjhnifdcfaa.Cy

namespace Go.Proofs.Yteccgjhnifdcfaa.Cy
open Go Go.RowKit Kit Uf Ig Tr
open Go.Proofs.Yteccgjhnifdcfaa.Hs (Keys Ints BoxT OwnI make_ints)
theorem dl_first {R V : List Int} {P T ks : List (List Int)} (hC : Cl R V) {s0 : Nat} (hs : s0 < V.length) {m u : Nat} (h : 0 ≤ dl V.length (fun a b => eB ks V P T (fst V a) b) (fst V s0) m u) : par V u = u := by
  obtain ⟨d, hd⟩ := Int.eq_ofNat_of_zero_le h
  cases d with
  | zero =>
    have := dl_zero (k := m) hd
    rw [this]; exact (hC.fst_in s0 hs).2.1
  | succ d =>
    obtain ⟨a, _, _, he⟩ := dl_back hd
    exact (eB_of he).2.1.2
end Go.Proofs.Yteccgjhnifdcfaa.Cy

namespace Go.Proofs.Yteccgjhnifdcfaa.Cy
open Go Go.RowKit Go.Maps Go.WideMaps Go.Lib Go.Sort Go.Shelf Kit Uf Ig Tr
open Go.Proofs.Yteccgjhnifdcfaa.Hs (Keys Ints KeysP IntsP BoxT)
/-- the way, as the search and the way from behind have it -/
theorem path_self {N s : Nat} {e : Nat → Nat → Bool} (depth : Int) : pathN N e s s depth = [s] := by
  unfold pathN
  have h := dl_self (N := N) (e := e) (s := s) N
  rw [h, if_pos ⟨by omega, by omega⟩]
  rfl
set_option maxRecDepth 100000 in
set_option maxHeartbeats 4000000 in
theorem path13p_any (R : List Int) (c : Cells) (P T ks : List (List Int)) (A S F Av D E Pa Ta : Option Addr) (ca ms d nr cr k1 k2 k3 kp kt x y : Nat) (depth : Int) (w : World)
    (hk : Keys w w.heap.size A ks) (hkey : ∀ k ∈ ks, k.length ≤ 100000) (hl : ks.length ≤ 1000000) (h : Rd w c Av k1 D k2 E k3) (hC : Cl R c.V) (hlv : c.V.length ≤ 1000)
    (hP : Keys w w.heap.size Pa P) (hT : Keys w w.heap.size Ta T) (lP : P.length = c.V.length) (lT : T.length = c.V.length) (sP : ∀ x ∈ P, x.length ≤ 1000000) (sT : ∀ x ∈ T, x.length ≤ 1000000) (hE : (edgesN ks c.V P T).length ≤ 1000000) (hx : x < c.V.length) (hy : y < c.V.length) :
    Calls Try.prog 9 #[.agg #[.slice A ks.length ca, .slice S ms d], .agg #[.slice F nr cr, .slice Av c.V.length k1, .slice D c.N.length k2, .slice E c.M.length k3, .slice Pa P.length kp, .slice Ta T.length kt], .int .i64 (x : Int), .int .i64 (y : Int), .int .i64 depth] w (RowPost ((pathN c.V.length (fun a b => eB ks c.V P T (fst c.V a) b) (fst c.V x) (fst c.V y) depth).map fun (n : Nat) => (n : Int)) w) := by
  have hlv6 : c.V.length ≤ 1000000 := by omega
  have q0 := ((Q.refl w).alloc (Obj.cells #[.slice A ks.length ca, .slice S ms d] 26)).alloc (Obj.cells #[.slice F nr cr, .slice Av c.V.length k1, .slice D c.N.length k2, .slice E c.M.length k3, .slice Pa P.length kp, .slice Ta T.length kt] 31)
  have HBa := Lib.hid ((BoxT.new w (.slice A ks.length ca) (.slice S ms d) 26).q ((Q.refl _).alloc (Obj.cells #[.slice F nr cr, .slice Av c.V.length k1, .slice D c.N.length k2, .slice E c.M.length k3, .slice Pa P.length kp, .slice Ta T.length kt] 31)))
  have X := Box6.new (w.alloc (Obj.cells #[.slice A ks.length ca, .slice S ms d] 26)) (.slice F nr cr) (.slice Av c.V.length k1) (.slice D c.N.length k2) (.slice E c.M.length k3) (.slice Pa P.length kp) (.slice Ta T.length kt) 31
  rw [World.size_alloc] at X
  have HBg := Lib.hid X
  have HQ0 := Lib.hid q0
  obtain ⟨f, hf⟩ : ∃ f, f = fst c.V x := ⟨_, rfl⟩
  obtain ⟨g, hg⟩ : ∃ g, g = fst c.V y := ⟨_, rfl⟩
  have CT := Lib.hid (fun (z : Nat) (U : World) => there13 c.V.length (.slice F nr cr) (.slice D c.N.length k2) (.slice E c.M.length k3) (.slice Pa P.length kp) (.slice Ta T.length kt) Av k1 (z : Int) U)
  have CFx := Lib.hid (fun (U : World) (q : Q w U) => find_any R c x Av D E _ k1 _ k2 _ k3 U rfl rfl rfl (h.q q) hC hx hlv6)
  have CFy := Lib.hid (fun (U : World) (q : Q w U) => find_any R c y Av D E _ k1 _ k2 _ k3 U rfl rfl rfl (h.q q) hC hy hlv6)
  have CA := Lib.hid (fun (U : World) (q : Q w U) => all13p_any R c P T ks A S F Av D E Pa Ta ca ms d nr cr k1 k2 k3 kp kt U ((hk.q (Nat.le_refl _) q).more q.size) hkey hl (h.q q) hC hlv6 ((hP.q (Nat.le_refl _) q).more q.size) ((hT.q (Nat.le_refl _) q).more q.size) lP lT sP sT hE)
  have hfN : f < c.V.length := by rw [hf]; exact (hC.fst_in x hx).1
  have hgN : g < c.V.length := by rw [hg]; exact (hC.fst_in y hy).1
  have CS := Lib.hid (fun (U : World) (An : Option Addr) (hX : Keys U U.heap.size An ((List.range c.V.length).map fun i => toOf (edgesN ks c.V P T) i)) => search13p_any c.V.length f g c.V.length depth (fun a b => eB ks c.V P T (fst c.V a) b) (fun i => toOf (edgesN ks c.V P T) i) An U hlv hfN hgN
    (fun j u hu hd x0 => by
      have hpu : par c.V u = u := dl_first hC hx (m := j) (by rw [← hf, hd]; omega)
      have hfu : fst c.V u = u := hC.fst_self hu hpu
      rw [toOf_mem]
      constructor
      · rintro ⟨v, hv, rfl⟩
        have hv := (mem_edges hC).1 hv
        exact ⟨v, (eB_of hv).2.1.1, by rw [hfu]; exact hv, rfl⟩
      · rintro ⟨v, _, hv, rfl⟩
        rw [hfu] at hv
        exact ⟨v, (mem_edges hC).2 hv, rfl⟩)
    (fun u _ => Nat.le_trans (toOf_len _ _) hE) hX)
  obtain ⟨L, hL⟩ : ∃ L : Nat → List Int, ∀ j, L j = (if 0 ≤ dl c.V.length (fun a b => eB ks c.V P T (fst c.V a) b) f j g then back c.V.length (fun a b => eB ks c.V P T (fst c.V a) b) (dl c.V.length (fun a b => eB ks c.V P T (fst c.V a) b) f j) (dl c.V.length (fun a b => eB ks c.V P T (fst c.V a) b) f j g).toNat g else []).map fun (n : Nat) => (n : Int) := ⟨_, fun _ => rfl⟩
  have HL := Lib.hid hL
  have CTo : Hid (∀ (U : World) (b n j : Nat), WayM U b n (wayF c.V.length (fun a b => eB ks c.V P T (fst c.V a) b) f j) → Calls Try.prog 28 #[.map (some b), .int .i64 (g : Int)] U (RowPost (L j) U)) := (fun (U : World) (b n j : Nat) (hm : WayM U b n (wayF c.V.length (fun a b => eB ks c.V P T (fst c.V a) b) f j)) => to13p_any c.V.length f g j b n (fun a b => eB ks c.V P T (fst c.V a) b) U hlv hfN hgN hm |> fun h => by rw [hL]; exact h)
  have dx : (decide (0 ≤ (x : Int)) && decide ((x : Int) < (c.V.length : Int))) = true := by rw [decide_eq_true (by omega), decide_eq_true (by omega)]; rfl
  have dy : (decide (0 ≤ (y : Int)) && decide ((y : Int) < (c.V.length : Int))) = true := by rw [decide_eq_true (by omega), decide_eq_true (by omega)]; rfl
  have Hdx := Lib.hid dx
  have Hdy := Lib.hid dy
  rw [← hf] at CFx
  rw [← hg] at CFy
  rw [← hf, ← hg]
  clear hk hkey hl h hC hlv hlv6 hP hT lP lT sP sT hE hx hy X q0 hf hg hfN hgN dx dy hL
  go_enter Try.func9, Try.ntmps9
  go_upto_region 1 with fail
  generalize (w.alloc (Obj.cells #[.slice A ks.length ca, .slice S ms d] 26)).alloc (Obj.cells #[.slice F nr cr, .slice Av c.V.length k1, .slice D c.N.length k2, .slice E c.M.length k3, .slice Pa P.length kp, .slice Ta T.length kt] 31) = W0 at *
  have g0 := (HBg.out.q (Q.refl W0)).c0
  have g1 := (HBg.out.q (Q.refl W0)).c1
  have g2 := (HBg.out.q (Q.refl W0)).c2
  have g3 := (HBg.out.q (Q.refl W0)).c3
  have g4 := (HBg.out.q (Q.refl W0)).c4
  have g5 := (HBg.out.q (Q.refl W0)).c5
  go_upto_region 3 with (first
    | (go_at_call 24; (with_reducible refine (CT.out x W0).mono ?_); rintro e w1 ⟨rfl, q1⟩; rw [Hdx.out]; have HQ1 := Lib.hid q1; clear q1 g0 g1 g2 g3 g4 g5; have g0 := (HBg.out.q HQ1.out).c0; have g1 := (HBg.out.q HQ1.out).c1; have g2 := (HBg.out.q HQ1.out).c2; have g3 := (HBg.out.q HQ1.out).c3; have g4 := (HBg.out.q HQ1.out).c4; have g5 := (HBg.out.q HQ1.out).c5)
    | (go_at_call 24; (with_reducible refine (CT.out y w1).mono ?_); rintro e w2 ⟨rfl, q2⟩; rw [Hdy.out]; have HQ2 := Lib.hid (HQ1.out.trans q2); clear q2 g0 g1 g2 g3 g4 g5))
  have HQd := Lib.hid (Q.drew (HQ0.out.trans HQ2.out))
  have tst : (fun X => X.cell? ⟨w.heap.size + 1, 1, none⟩ = some (.slice Av c.V.length k1) ∧ X.cell? ⟨w.heap.size + 1, 2, none⟩ = some (.slice D c.N.length k2) ∧ X.cell? ⟨w.heap.size + 1, 3, none⟩ = some (.slice E c.M.length k3)) w2.drew := ⟨(HBg.out.q (Q.drew HQ2.out)).c1, (HBg.out.q (Q.drew HQ2.out)).c2, (HBg.out.q (Q.drew HQ2.out)).c3⟩
  go_region_held3 (fun X => X.cell? ⟨w.heap.size + 1, 1, none⟩ = some (.slice Av c.V.length k1) ∧ X.cell? ⟨w.heap.size + 1, 2, none⟩ = some (.slice D c.N.length k2) ∧ X.cell? ⟨w.heap.size + 1, 3, none⟩ = some (.slice E c.M.length k3))
    (first
      | go_keep
      | exact ⟨(HBg.out.q (Q.drew HQ2.out)).c1, (HBg.out.q (Q.drew HQ2.out)).c2, (HBg.out.q (Q.drew HQ2.out)).c3⟩
      | exact ⟨(HBg.out.q HQ3.out).c1, (HBg.out.q HQ3.out).c2, (HBg.out.q HQ3.out).c3⟩
      | exact ⟨(HBg.out.q HQ4.out).c1, (HBg.out.q HQ4.out).c2, (HBg.out.q HQ4.out).c3⟩)
    (first
      | (go_at_call 25; (with_reducible refine (CFx.out w2.drew HQd.out).mono ?_); rintro e w3 ⟨rfl, q3⟩; have HQ3 := Lib.hid ((Q.drew HQ2.out).trans q3); clear q3)
      | (go_at_call 25; (with_reducible refine (CFy.out w3 (HQ0.out.trans HQ3.out)).mono ?_); rintro e w4 ⟨rfl, q4⟩; have HQ4 := Lib.hid (HQ3.out.trans q4); clear q4))
  have HQw := Lib.hid (HQ0.out.trans HQ4.out)
  by_cases hfg : f = g
  · subst hfg
    have e1 : ((f : Int) == (f : Int)) = true := by simp
    go_wp2_with fail
    go_ret
    rw [path_self]
    exact ⟨_, 1, rfl, Nat.le_refl _, fun _ => ⟨_, rfl, by simp, fun i v hv => by rw [Hs.add_zero_head]; exact ((own_new13 w4 (.int .i64 (f : Int)) 3).2 i v hv).1⟩, HQw.out.trans ((Q.refl w4).alloc _)⟩
  · have e1 : ((f : Int) == (g : Int)) = false := beq_eq_false_iff_ne.2 (by omega)
    have a0 := (HBa.out.q HQ4.out).c0
    have a1 := (HBa.out.q HQ4.out).c1
    have g0 := (HBg.out.q HQ4.out).c0
    have g1 := (HBg.out.q HQ4.out).c1
    have g2 := (HBg.out.q HQ4.out).c2
    have g3 := (HBg.out.q HQ4.out).c3
    have g4 := (HBg.out.q HQ4.out).c4
    have g5 := (HBg.out.q HQ4.out).c5
    clear hfg
    go_wp2_with (first
      | (go_at_call 27; refine (CA.out w4 HQw.out).mono ?_; rintro e w5 ⟨An, rfl, hX, q5⟩; have HX := Lib.hid hX; have HQ5 := Lib.hid (HQw.out.trans q5); clear hX q5)
      | (go_at_call 26; refine (CS.out w5 An HX.out).mono ?_; rintro e w6 ⟨b, n, j, rfl, hj, hst, hm, q6⟩; have HJ := Lib.hid hj; have HSt := Lib.hid hst; have HM := Lib.hid hm; have HQ6 := Lib.hid (HQ5.out.trans q6); clear hj hst hm q6)
      | (go_at_call 28; refine (CTo.out w6 b n j HM.out).mono ?_; rintro e w7 ⟨A7, c7, rfl, hc7, hR7, q7⟩; have HC7 := Lib.hid hc7; have HR7 := Lib.hid hR7; have HQ7 := Lib.hid (HQ6.out.trans q7); clear hc7 hR7 q7))
    go_ret
    rw [path_stop HJ.out HSt.out, ← HL.out j]
    exact ⟨A7, c7, rfl, HC7.out, HR7.out, HQ7.out⟩
end Go.Proofs.Yteccgjhnifdcfaa.Cy

namespace Go.Proofs.Yteccgjhnifdcfaa.Cy
open Go Go.RowKit Go.Lib Go.Sort Go.Shelf Kit Uf Ig Tr
open Go.Proofs.Yteccgjhnifdcfaa.Hs (Keys Ints KeysP IntsP BoxT)
attribute [local go_sem] Oper.semAt_some

set_option maxRecDepth 100000 in
set_option maxHeartbeats 4000000 in
theorem next13_any (R : List Int) (c : Cells) (P T ks : List (List Int)) (A S F Av D E Pa Ta : Option Addr) (ca ms d nr cr k1 k2 k3 kp kt x : Nat) (w : World)
    (hk : Keys w w.heap.size A ks) (hkey : ∀ k ∈ ks, k.length ≤ 100000) (hl : ks.length ≤ 1000000) (h : Rd w c Av k1 D k2 E k3) (hC : Cl R c.V) (hlv : c.V.length ≤ 1000000)
    (hP : Keys w w.heap.size Pa P) (hT : Keys w w.heap.size Ta T) (lP : P.length = c.V.length) (lT : T.length = c.V.length) (sP : ∀ x ∈ P, x.length ≤ 1000000) (sT : ∀ x ∈ T, x.length ≤ 1000000) (hE : (edgesN ks c.V P T).length ≤ 1000000) (hx : x < c.V.length) :
    Calls Try.prog 12 #[.agg #[.slice A ks.length ca, .slice S ms d], .agg #[.slice F nr cr, .slice Av c.V.length k1, .slice D c.N.length k2, .slice E c.M.length k3, .slice Pa P.length kp, .slice Ta T.length kt], .int .i64 (x : Int)] w (RowPost (nextL ks c.V P T (fst c.V x)) w) := by
  obtain ⟨i0, hi, hz0, hz1, hz2⟩ := info_parts intInfo
  have Hi := Lib.hid hi
  have Hz0 := Lib.hid hz0
  have Hz1 := Lib.hid hz1
  have Hz2 := Lib.hid hz2
  clear hi hz0 hz1 hz2
  obtain ⟨f, hf⟩ : ∃ f, f = fst c.V x := ⟨_, rfl⟩
  have q0 := ((Q.refl w).alloc (Obj.cells #[.slice A ks.length ca, .slice S ms d] 26)).alloc (Obj.cells #[.slice F nr cr, .slice Av c.V.length k1, .slice D c.N.length k2, .slice E c.M.length k3, .slice Pa P.length kp, .slice Ta T.length kt] 31)
  have HBa := Lib.hid ((BoxT.new w (.slice A ks.length ca) (.slice S ms d) 26).q ((Q.refl _).alloc (Obj.cells #[.slice F nr cr, .slice Av c.V.length k1, .slice D c.N.length k2, .slice E c.M.length k3, .slice Pa P.length kp, .slice Ta T.length kt] 31)))
  have X := Box6.new (w.alloc (Obj.cells #[.slice A ks.length ca, .slice S ms d] 26)) (.slice F nr cr) (.slice Av c.V.length k1) (.slice D c.N.length k2) (.slice E c.M.length k3) (.slice Pa P.length kp) (.slice Ta T.length kt) 31
  rw [World.size_alloc] at X
  have HBg := Lib.hid X
  have HQ0 := Lib.hid q0
  have CF := Lib.hid (fun (U : World) (q : Q w U) => find_any R c x Av D E _ k1 _ k2 _ k3 U rfl rfl rfl (h.q q) hC hx hlv)
  have CG := Lib.hid (fun (U : World) (K : Nat → Prop) (Ba Bg : Nat) (q : Q w U) (hK : ∀ b, b < w.heap.size → K b) (ba : BoxT U Ba (.slice A ks.length ca) (.slice S ms d)) (bg : Box6 U Bg (.slice F nr cr) (.slice Av c.V.length k1) (.slice D c.N.length k2) (.slice E c.M.length k3) (.slice Pa P.length kp) (.slice Ta T.length kt)) (kg : K Bg) =>
    edges_gives R c P T ks A S F Av D E Pa Ta ca ms d nr cr k1 k2 k3 kp kt Ba Bg K U ba bg kg ((hk.q (Nat.le_refl _) q).more q.size) hkey hl (h.q q) hC hlv (Hs.Keys.p (hP.q (Nat.le_refl _) q) q.size hK) (Hs.Keys.p (hT.q (Nat.le_refl _) q) q.size hK) lP lT sP sT)
  have HE := Lib.hid hE
  have HN := Lib.hid (next_is (ks := ks) (P := P) (T := T) hC f)
  rw [← hf] at CF ⊢
  clear hk hkey hl h hC hlv hP hT lP lT sP sT hE hx X q0 hf
  refine callsIn_wide.1 (callsIn_of_wp_marks (n := 5) Try.func12 rfl trivial ?_ rfl)
  simp only [Try.ntmps12, List.size_toArray, List.length_cons, List.length_nil, Nat.reduceAdd, Nat.reduceSub, Array.replicate_succ, Array.replicate_zero, List.push_toArray, List.append_toArray, List.nil_append, List.cons_append]
  refine wpIn_wide.2 ?_
  go_upto_region 1 with fail
  have HZ0 : Hid (((w.alloc (Obj.cells #[.slice A ks.length ca, .slice S ms d] 26)).alloc (Obj.cells #[.slice F nr cr, .slice Av c.V.length k1, .slice D c.N.length k2, .slice E c.M.length k3, .slice Pa P.length kp, .slice Ta T.length kt] 31)).heap.size = w.heap.size + 2) := by unfold Hid; simp
  generalize (w.alloc (Obj.cells #[.slice A ks.length ca, .slice S ms d] 26)).alloc (Obj.cells #[.slice F nr cr, .slice Av c.V.length k1, .slice D c.N.length k2, .slice E c.M.length k3, .slice Pa P.length kp, .slice Ta T.length kt] 31) = W0 at *
  have g1 := HBg.out.c1
  have g2 := HBg.out.c2
  have g3 := HBg.out.c3
  go_upto_region 2 with (go_at_call 25; refine (CF.out W0 HQ0.out).mono ?_; rintro e w1 ⟨rfl, q1⟩; have HQ1 := Lib.hid q1; clear q1 g1 g2 g3)
  have qa := (Q.refl w1).alloc (.cells #[.int .i64 (f : Int)] 3)
  have hb7 := cell_new w1 (.int .i64 (f : Int)) 3 w1.heap.size rfl
  have hs7 : (w1.alloc (.cells #[.int .i64 (f : Int)] 3)).heap.size = w1.heap.size + 1 := by simp
  have HQa := Lib.hid qa
  have HB7 := Lib.hid hb7
  have HS7 := Lib.hid hs7
  clear qa hb7 hs7
  generalize w1.alloc (.cells #[.int .i64 (f : Int)] 3) = W2 at *
  go_upto_region 3 with fail
  have qb := (Q.refl W2).alloc (.cells #[.slice none 0 0] 24)
  have hb8 := cell_new W2 (.slice none 0 0) 24 W2.heap.size rfl
  have hf8 : (W2.alloc (.cells #[.slice none 0 0] 24)).frozen? ⟨W2.heap.size, 0, none⟩ = false := by simp
  have hs8 : (W2.alloc (.cells #[.slice none 0 0] 24)).heap.size = W2.heap.size + 1 := by simp
  have HQb := Lib.hid qb
  have HB8 := Lib.hid hb8
  have HF8 := Lib.hid hf8
  have HS8 := Lib.hid hs8
  clear qb hb8 hs8 hf8
  generalize W2.alloc (.cells #[.slice none 0 0] 24) = W3 at *
  have HQ3 := Lib.hid ((HQ1.out.trans HQa.out).trans HQb.out)
  have a0 := (HBa.out.q HQ3.out).c0
  have a1 := (HBa.out.q HQ3.out).c1
  have g0 := (HBg.out.q HQ3.out).c0
  have g1 := (HBg.out.q HQ3.out).c1
  have g2 := (HBg.out.q HQ3.out).c2
  have g3 := (HBg.out.q HQ3.out).c3
  have g4 := (HBg.out.q HQ3.out).c4
  have g5 := (HBg.out.q HQ3.out).c5
  go_wp2_with (go_at_call 29; refine (edges13_any _ _ _ _ _ _ _ _ _).mono ?_; rintro e W5 ⟨rfl, hW5⟩; have ba := (BoxT.new W3 (.slice A ks.length ca) (.slice S ms d) 26).q ((Q.refl _).alloc (Obj.cells #[.slice F nr cr, .slice Av c.V.length k1, .slice D c.N.length k2, .slice E c.M.length k3, .slice Pa P.length kp, .slice Ta T.length kt] 31)); have bg := Box6.new (W3.alloc (Obj.cells #[.slice A ks.length ca, .slice S ms d] 26)) (.slice F nr cr) (.slice Av c.V.length k1) (.slice D c.N.length k2) (.slice E c.M.length k3) (.slice Pa P.length kp) (.slice Ta T.length kt) 31; have q5 : Q W3 W5 := (by rw [hW5]; exact ((Q.refl W3).alloc _).alloc _); have hs5 : Hid (W5.heap.size = W3.heap.size + 2) := (by rw [hW5]; unfold Hid; simp); rw [World.size_alloc] at bg; rw [← hW5] at ba bg; clear a0 a1 g0 g1 g2 g3 g4 g5 hW5)
  have hs5 := hs5.out
  have hs7 := HS7.out
  have hs8 := HS8.out
  have hs0 := HZ0.out
  have hs1 := HQ1.out.size
  have HNx0 : Hid (NxI w W5.heap.size w1.heap.size W2.heap.size f [] (fun b => b = W2.heap.size ∨ (Value.slice none 0 0).ownBlock = some b) W5) :=
    ⟨.slice none 0 0, fun b => Iff.rfl, (q5.cell (p := ⟨W2.heap.size, 0, none⟩) (by show W2.heap.size < _; omega)).trans HB8.out, (q5.frozen (p := ⟨W2.heap.size, 0, none⟩) (by show W2.heap.size < _; omega)).trans HF8.out, own_nil W5 _, ((HQb.out.trans q5).cell (p := ⟨w1.heap.size, 0, none⟩) (by show w1.heap.size < _; omega)).trans HB7.out, Nat.le_refl _, (HQ0.out.trans HQ3.out).trans q5⟩
  have HG5 := Lib.hid (CG.out W5 (fun b => b ≠ W2.heap.size) W3.heap.size (W3.heap.size + 1) ((HQ0.out.trans HQ3.out).trans q5) (fun b hb => by omega) ba bg (by omega))
  have HMd : Hid (Mind W5.heap.size (NxI w W5.heap.size w1.heap.size W2.heap.size f)) := NxI.mind (by omega) (by omega) (by omega)
  have H78 : Hid (w1.heap.size < W5.heap.size ∧ W2.heap.size < W5.heap.size ∧ w1.heap.size ≠ W2.heap.size ∧ w.heap.size ≤ W2.heap.size) := ⟨by omega, by omega, by omega, by omega⟩
  clear hs7 hs8 hs0 hs1 hs5 ba bg q5
  refine (wpIn_wide (n := 5)).1 ?_
  refine range_gives (gf := 55) (lb := #[.pointer (some ⟨W3.heap.size, 0, none⟩), .pointer (some ⟨W3.heap.size + 1, 0, none⟩)]) rfl (enters_of Try.func55 (by kernel_rfl) rfl)
    HG5.out (Q.refl _) (fun x => rfl) (NxI w W5.heap.size w1.heap.size W2.heap.size f) HMd.out (fun b => b = W2.heap.size ∨ (Value.slice none 0 0).ownBlock = some b) (fun k hk hm => hm.elim hk (fun e => by cases e)) HNx0.out
    (fun e => { tmps := #[.agg #[.slice A ks.length ca, .slice S ms d], .agg #[.slice F nr cr, .slice Av c.V.length k1, .slice D c.N.length k2, .slice E c.M.length k3, .slice Pa P.length kp, .slice Ta T.length kt], .int .i64 (x : Int), .pointer (some ⟨w.heap.size, 0, none⟩), .pointer (some ⟨w.heap.size + 1, 0, none⟩), undef, .slice none 0 0, .pointer (some ⟨w1.heap.size, 0, none⟩), .pointer (some ⟨W2.heap.size, 0, none⟩), .int .i64 (e.1 : Int), .int .i64 (e.2 : Int), .pointer (some ⟨w.heap.size + 1, 1, none⟩), .agg #[.slice Av c.V.length k1, .slice D c.N.length k2, .slice E c.M.length k3], .int .i64 (x : Int), .int .i64 (f : Int), .agg #[.slice A ks.length ca, .slice S ms d], .agg #[.slice F nr cr, .slice Av c.V.length k1, .slice D c.N.length k2, .slice E c.M.length k3, .slice Pa P.length kp, .slice Ta T.length kt], .func (.func 55) #[] #[.pointer (some ⟨W3.heap.size, 0, none⟩), .pointer (some ⟨W3.heap.size + 1, 0, none⟩)], .int .i64 (e.1 : Int), .int .i64 (e.2 : Int), undef, undef, undef, undef, undef, undef, undef, undef, undef, undef, undef], defers := [] }) ?assign ?body ?done
  case assign =>
    intro l' e U K' hK'
    gi_wp2
    exact hK'
  case body =>
    rintro l' pre e M1 U hN hpre
    by_cases he : e.1 = f
    · obtain ⟨v, hM, b8, f8, own, b7, hs, q⟩ := hN
      have hlen : (toOf pre f).length < 1000000 := by
        obtain ⟨post, hp⟩ := hpre
        have h1 := toOf_len pre f
        have h2 := HE.out
        rw [← hp, List.length_append, List.length_cons] at h2
        omega
      have d1 : ((e.1 : Int) == (f : Int)) = true := by rw [he]; simp
      have HM := Lib.hid hM
      have HO := Lib.hid own
      have Hs := Lib.hid hs
      have Hq := Lib.hid q
      have Hb8 := Lib.hid b8
      have Hb7 := Lib.hid b7
      have Hf8 := Lib.hid f8
      have Hpe := Lib.hid he
      have HvB : Hid (∀ r, v.ownBlock = some r → W5.heap.size ≤ r) := fun r e => (own.lt r e).1
      clear hM own hs q hpre he
      gi_wp2_with (gi_at_builtin; refine wpListIn_append_at _ rfl _ _ 24 rfl W5.heap.size 3 i0 (.int .i64 0) 1 8 Try.underlying24 Hi.out Hz0.out Hz1.out Hz2.out rfl (by decide) v (toOf pre f).length _ rfl (HO.out.alloc _) ⟨U.heap.size, 0, none⟩ 1 1 [.int .i64 (e.2 : Int)] rfl rfl (cell_one_new _ _ _) (by simp [Value.oneCell']) (by unfold maxLen; omega) (by omega) (by have := Hs.out; simp; omega) ?_; intro v' w3 own' gr' hat; obtain ⟨Ao, co, rfl, -, -⟩ := own_o own'; have y8 := cell_grown gr' (((Q.refl U).alloc (.cells #[.int .i64 (e.2 : Int)] 3)).cell (p := ⟨W2.heap.size, 0, none⟩) (World.block_lt_of_cell? _ _ Hb8.out) |>.trans Hb8.out) (fun r e => by have := HvB.out r e; have := H78.out; show r ≠ W2.heap.size; omega); have z8 := (frozen_grown gr' (((Q.refl U).alloc (.cells #[.int .i64 (e.2 : Int)] 3)).cell (p := ⟨W2.heap.size, 0, none⟩) (World.block_lt_of_cell? _ _ Hb8.out) |>.trans Hb8.out) (fun r e => by have := HvB.out r e; have := H78.out; show r ≠ W2.heap.size; omega)).trans ((((Q.refl U).alloc (.cells #[.int .i64 (e.2 : Int)] 3)).frozen (p := ⟨W2.heap.size, 0, none⟩) (World.block_lt_of_cell? _ _ Hb8.out)).trans Hf8.out); have HOw := Lib.hid own'; have HGr := Lib.hid gr'; have HAt := Lib.hid hat; clear own' gr' hat b7 b8 f8)
      exact NxI.add H78.out.1 H78.out.2.1 H78.out.2.2.1 H78.out.2.2.2 HM.out Hb8.out Hf8.out HO.out Hb7.out Hs.out Hq.out Hpe.out ((Q.refl U).alloc (.cells #[.int .i64 (e.2 : Int)] 3)) (by simp) HOw.out HGr.out HAt.out
    · obtain ⟨v, _, b8, f8, _, b7, _, _⟩ := id hN
      have d1 : ((e.1 : Int) == (f : Int)) = false := beq_eq_false_iff_ne.2 (by omega)
      have HN2 := Lib.hid (hN.skip he)
      clear hN hpre he
      gi_wp2
      exact ⟨M1, HN2.out, Gr.refl _ _, Fr.refl _ _⟩
  case done =>
    rintro Dd M1 U1 ⟨v, hM, b8, f8, own, b7, hs, q⟩ hD hDM hdef
    simp only [Exit.inBlock, Exit.then]
    have hlen : (toOf (edgesN ks c.V P T) f).length ≤ 1000000 := Nat.le_trans (toOf_len _ _) HE.out
    have hrow := rowAt_of own rfl
    have hvB : ∀ r, v.ownBlock = some r → W5.heap.size ≤ r ∧ r ≠ Dd := fun r e => ⟨(own.lt r e).1, fun e2 => hDM ((hM Dd).2 (.inr (e2 ▸ e)))⟩
    have HRow := Lib.hid hrow
    have HvB := Lib.hid hvB
    have Hb8 := Lib.hid b8
    have HDf := Lib.hid hdef
    have HDd := Lib.hid hD
    have Hq := Lib.hid q
    clear hM own hs hDM hdef hrow hvB f8 b7 hD q
    go_wp2_with (first
      | (go_at_call 30; refine (sortI_any W5.heap.size v _ U1 HRow.out hlen).mono ?_; rintro e U2 ⟨rfl, hr2, gr2⟩; have HR2 := Lib.hid hr2; have HG2 := Lib.hid gr2; have b82 := cell_grown gr2 Hb8.out (fun r e => by have := (HvB.out r e).1; have := H78.out; show r ≠ W2.heap.size; omega); clear hr2 gr2 b8)
      | (go_at_call 31; refine (compactI_any W5.heap.size v _ U2 HR2.out (by rw [sortI_len]; exact hlen)).mono ?_; rintro e U3 ⟨v3, rfl, hr3, gr3⟩; have HR3 := Lib.hid hr3; have HG3 := Lib.hid gr3; clear hr3 gr3 b82))
    have hDl := (Array.getElem?_eq_some_iff.1 HDf.out).1
    have hd2 : U2.heap[Dd]? = some (.deferred (some [])) := (HG2.out.block Dd hDl (fun e => (HvB.out Dd e.symm).2 rfl)).trans HDf.out
    have hd3 : U3.heap[Dd]? = some (.deferred (some [])) := (HG3.out.block Dd (Array.getElem?_eq_some_iff.1 hd2).1 (fun e => (HvB.out Dd e.symm).2 rfl)).trans hd2
    have gD := grownBy_putObj' U3 Dd (.deferred none)
    have hqw := HQ0.out.size
    obtain ⟨A', c', rfl, hc', ho'⟩ := HR3.out
    have hlow := H78.out
    have hq3 : Q w (U3.putObj Dd (.deferred none)) := q_grown (q_grown (q_grown Hq.out HG2.out (fun r e => by have := (HvB.out r e).1; omega)) HG3.out (fun r e => by have := (HvB.out r e).1; omega)) gD (fun r e => by injection e with e; have := HDd.out; omega)
    show LeavesInM Fence.wide 5 Try.prog Try.f12 _ _ [{ target := Target.collected Dd, args := #[] }] .returning U3
    refine ⟨by simp, .inl ⟨_, _, rfl, run_takeDeferred hd3, ?_⟩⟩
    rw [HN.out] at ho' hc' ⊢
    refine ⟨_, results_tmp rfl _ _ _, A', c', rfl, hc', fun h0 => ?_, hq3⟩
    obtain ⟨g, rfl, hg, hO⟩ := ho' h0
    have hne : g ≠ Dd := fun e => by
      have h1 := (hO.2 0 _ (List.getElem?_eq_getElem h0)).1
      rw [e] at h1
      simp [World.cell?, hd3] at h1
    refine ⟨_, rfl, Nat.lt_of_lt_of_le hO.1 gD.size, fun i u hu => ?_⟩
    rw [Hs.add_zero_head]
    exact cell_grown gD (hO.2 i u hu).1 (fun r e => by injection e with e; subst e; exact fun e2 => hne e2.symm)
end Go.Proofs.Yteccgjhnifdcfaa.Cy

namespace Go.Proofs.Yteccgjhnifdcfaa.Ig
open Go.RowKit Kit Tr Uf
open Go.Proofs.Yteccgjhnifdcfaa.Hs (Keys Ints BoxT layI Dist refLay_any LayPost)
open Go.Proofs.Yteccgjhnifdcfaa.Tm (Tm termAt of_any Box4)
def twoK : List (List Int) := [[0, 0, 0], [1, 0, 0], [2, 0, 0], [2, 1, 0]]
theorem own_ints12 {w : World} {g : Nat} {l : List Int} {K : Nat → Prop} (h : OwnC w g (cellsI l)) (hk : K g) : Hs.IntsP w K (some ⟨g, 0, none⟩) l := fun _ => ⟨_, rfl, hk, h.1, fun i x hx => by rw [Tr.add_zero_head]; exact (h.2 i _ (by simp [cellsI, hx])).1⟩
theorem own_new12 (w : World) (cs : List Value) (t : TypeId) : OwnC (w.alloc (.cells cs.toArray t)) w.heap.size cs := by
  refine ⟨by simp, fun j v hv => ⟨?_, World.frozen?_alloc_at _ _ _ _ rfl⟩⟩
  rw [cell_of_row _ _ _ _ _ _ (heap_alloc_new w _)]
  simpa using hv
theorem two_keys (W0 : World) : Hs.KeysP (((((W0.alloc (Obj.cells #[.int .i64 0, .int .i64 0, .int .i64 0] 3)).alloc (Obj.cells #[.int .i64 1, .int .i64 0, .int .i64 0] 3)).alloc (Obj.cells #[.int .i64 2, .int .i64 0, .int .i64 0] 3)).alloc (Obj.cells #[.int .i64 2, .int .i64 1, .int .i64 0] 3)).alloc (Obj.cells #[.slice (some ⟨W0.heap.size, 0, none⟩) 3 3, .slice (some ⟨(W0.heap.size + 1), 0, none⟩) 3 3, .slice (some ⟨(W0.heap.size + 1 + 1), 0, none⟩) 3 3, .slice (some ⟨(W0.heap.size + 1 + 1 + 1), 0, none⟩) 3 3] 24)) (fun b => W0.heap.size ≤ b) (some ⟨(W0.heap.size + 1 + 1 + 1 + 1), 0, none⟩) twoK ∧ Q W0 (((((W0.alloc (Obj.cells #[.int .i64 0, .int .i64 0, .int .i64 0] 3)).alloc (Obj.cells #[.int .i64 1, .int .i64 0, .int .i64 0] 3)).alloc (Obj.cells #[.int .i64 2, .int .i64 0, .int .i64 0] 3)).alloc (Obj.cells #[.int .i64 2, .int .i64 1, .int .i64 0] 3)).alloc (Obj.cells #[.slice (some ⟨W0.heap.size, 0, none⟩) 3 3, .slice (some ⟨(W0.heap.size + 1), 0, none⟩) 3 3, .slice (some ⟨(W0.heap.size + 1 + 1), 0, none⟩) 3 3, .slice (some ⟨(W0.heap.size + 1 + 1 + 1), 0, none⟩) 3 3] 24)) := by
  have o0 := own_new12 W0 [.int .i64 0, .int .i64 0, .int .i64 0] 3
  have q0 := (Q.refl W0).alloc (Obj.cells #[.int .i64 0, .int .i64 0, .int .i64 0] 3)
  have z0 : (W0.alloc (Obj.cells #[.int .i64 0, .int .i64 0, .int .i64 0] 3)).heap.size = W0.heap.size + 1 := by simp
  generalize W0.alloc (Obj.cells #[.int .i64 0, .int .i64 0, .int .i64 0] 3) = X1 at *
  have o1 := own_new12 X1 [.int .i64 1, .int .i64 0, .int .i64 0] 3
  have q1 := (Q.refl X1).alloc (Obj.cells #[.int .i64 1, .int .i64 0, .int .i64 0] 3)
  have z1 : (X1.alloc (Obj.cells #[.int .i64 1, .int .i64 0, .int .i64 0] 3)).heap.size = X1.heap.size + 1 := by simp
  generalize X1.alloc (Obj.cells #[.int .i64 1, .int .i64 0, .int .i64 0] 3) = X2 at *
  have o2 := own_new12 X2 [.int .i64 2, .int .i64 0, .int .i64 0] 3
  have q2 := (Q.refl X2).alloc (Obj.cells #[.int .i64 2, .int .i64 0, .int .i64 0] 3)
  have z2 : (X2.alloc (Obj.cells #[.int .i64 2, .int .i64 0, .int .i64 0] 3)).heap.size = X2.heap.size + 1 := by simp
  generalize X2.alloc (Obj.cells #[.int .i64 2, .int .i64 0, .int .i64 0] 3) = X3 at *
  have o3 := own_new12 X3 [.int .i64 2, .int .i64 1, .int .i64 0] 3
  have q3 := (Q.refl X3).alloc (Obj.cells #[.int .i64 2, .int .i64 1, .int .i64 0] 3)
  have z3 : (X3.alloc (Obj.cells #[.int .i64 2, .int .i64 1, .int .i64 0] 3)).heap.size = X3.heap.size + 1 := by simp
  generalize X3.alloc (Obj.cells #[.int .i64 2, .int .i64 1, .int .i64 0] 3) = X4 at *
  have e1 : X1.heap.size = W0.heap.size + 1 := z0
  have e2 : X2.heap.size = W0.heap.size + 1 + 1 := by omega
  have e3 : X3.heap.size = W0.heap.size + 1 + 1 + 1 := by omega
  have e4 : X4.heap.size = W0.heap.size + 1 + 1 + 1 + 1 := by omega
  have o4 := own_new12 X4 [.slice (some ⟨W0.heap.size, 0, none⟩) 3 3, .slice (some ⟨(W0.heap.size + 1), 0, none⟩) 3 3, .slice (some ⟨(W0.heap.size + 1 + 1), 0, none⟩) 3 3, .slice (some ⟨(W0.heap.size + 1 + 1 + 1), 0, none⟩) 3 3] 24
  have q4 := (Q.refl X4).alloc (Obj.cells #[.slice (some ⟨W0.heap.size, 0, none⟩) 3 3, .slice (some ⟨(W0.heap.size + 1), 0, none⟩) 3 3, .slice (some ⟨(W0.heap.size + 1 + 1), 0, none⟩) 3 3, .slice (some ⟨(W0.heap.size + 1 + 1 + 1), 0, none⟩) 3 3] 24)
  rw [e4] at o4
  rw [e1] at o1
  rw [e2] at o2
  rw [e3] at o3
  generalize X4.alloc (Obj.cells #[.slice (some ⟨W0.heap.size, 0, none⟩) 3 3, .slice (some ⟨(W0.heap.size + 1), 0, none⟩) 3 3, .slice (some ⟨(W0.heap.size + 1 + 1), 0, none⟩) 3 3, .slice (some ⟨(W0.heap.size + 1 + 1 + 1), 0, none⟩) 3 3] 24) = X5 at *
  have q34 := q3.trans q4
  have q24 := q2.trans q34
  have q14 := q1.trans q24
  refine ⟨fun _ => ⟨_, rfl, (by show W0.heap.size ≤ W0.heap.size + 1 + 1 + 1 + 1; omega), o4.1, fun i k hk => ?_⟩, q0.trans q14⟩
  match i, hk with
  | 0, hk =>
    obtain rfl : [0, 0, 0] = k := by simpa [twoK] using hk
    exact ⟨some ⟨W0.heap.size, 0, none⟩, 3, Nat.le_refl _, by rw [Hs.add_zero_head]; exact (o4.2 0 _ rfl).1, own_ints12 (l := [0, 0, 0]) (o0.q q14) (by show W0.heap.size ≤ W0.heap.size; omega)⟩
  | 1, hk =>
    obtain rfl : [1, 0, 0] = k := by simpa [twoK] using hk
    exact ⟨some ⟨(W0.heap.size + 1), 0, none⟩, 3, Nat.le_refl _, by rw [Hs.add_zero_head]; exact (o4.2 1 _ rfl).1, own_ints12 (l := [1, 0, 0]) (o1.q q24) (by show W0.heap.size ≤ (W0.heap.size + 1); omega)⟩
  | 2, hk =>
    obtain rfl : [2, 0, 0] = k := by simpa [twoK] using hk
    exact ⟨some ⟨(W0.heap.size + 1 + 1), 0, none⟩, 3, Nat.le_refl _, by rw [Hs.add_zero_head]; exact (o4.2 2 _ rfl).1, own_ints12 (l := [2, 0, 0]) (o2.q q34) (by show W0.heap.size ≤ (W0.heap.size + 1 + 1); omega)⟩
  | 3, hk =>
    obtain rfl : [2, 1, 0] = k := by simpa [twoK] using hk
    exact ⟨some ⟨(W0.heap.size + 1 + 1 + 1), 0, none⟩, 3, Nat.le_refl _, by rw [Hs.add_zero_head]; exact (o4.2 3 _ rfl).1, own_ints12 (l := [2, 1, 0]) (o3.q q4) (by show W0.heap.size ≤ (W0.heap.size + 1 + 1 + 1); omega)⟩
  | i + 4, hk => simp [twoK] at hk
theorem size_two : Hs.sizeN twoK.length = 8 := by
  show Hs.sizeN 4 = 8
  unfold Hs.sizeN; rw [Hs.sizeG_ge (by omega)]
end Go.Proofs.Yteccgjhnifdcfaa.Ig

namespace Go.Proofs.Yteccgjhnifdcfaa.Ig
open Go.RowKit Kit Tr Uf
open Go.Proofs.Yteccgjhnifdcfaa.Hs (Keys Ints BoxT layI)
open Go.Proofs.Yteccgjhnifdcfaa.Tm (Tm termAt of_any Box4)
end Go.Proofs.Yteccgjhnifdcfaa.Ig

namespace Go.Proofs.Yteccgjhnifdcfaa.Ig
open Go.RowKit Kit Tr Uf
open Go.Proofs.Yteccgjhnifdcfaa.Hs (Keys Ints BoxT layI)
open Go.Proofs.Yteccgjhnifdcfaa.Tm (Tm termAt of_any Box4)
end Go.Proofs.Yteccgjhnifdcfaa.Ig

namespace Go.Proofs.Yteccgjhnifdcfaa.Ig
open Go.RowKit Kit Tr Uf
open Go.Proofs.Yteccgjhnifdcfaa.Hs (Keys Ints BoxT layI KeysP IntsP)
open Go.Proofs.Yteccgjhnifdcfaa.Tm (Tm termAt of_any Box4)
open Go.Proofs.Yteccgjhnifdcfaa.St (cellsQ cellsQ_len pairInfo PI)
section
variable {w W W' : World} {R : List Int} {c : Cells} {P T : List (List Int)} {a1 a2 f1 f2 f3 f4 f5 f6 : Value} {g0 g1 g2 g3 gp gs O Br : Nat}
end
/-- the example's graph: two variables, each alone -/
def c2 : Cells := ⟨[0, 1], [(-1, 0), (-1, 0)], []⟩
theorem cl2 : Cl [] c2.V := cl_of (by decide)
end Go.Proofs.Yteccgjhnifdcfaa.Ig

namespace Go.Proofs.Yteccgjhnifdcfaa.Ig
open Go.RowKit Kit Tr Uf
open Go.Proofs.Yteccgjhnifdcfaa.Hs (Keys Ints BoxT layI KeysP IntsP)
open Go.Proofs.Yteccgjhnifdcfaa.Tm (Tm termAt of_any Box4)
theorem rep_2 : repV twoK c2.V 2 = 2 := by decide
theorem rep_3 : repV twoK c2.V 3 = 3 := by decide
end Go.Proofs.Yteccgjhnifdcfaa.Ig
