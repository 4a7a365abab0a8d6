/-
  StepMade holds.
-/
import Derived.Test.YtjehccemilefgaaPp
import Derived.Test.YtjehccemilefgaaRows
import Derived.OpenShut
import Derived.RegionTactic
import Derived.Deep.CutBlock
namespace Go.Proofs.Ytjehccemilefgaa.stepMade
open Go.ChangeShapes Go.WideShapes Go.ChangeAt Go.RowKit Kit Rw Ex St
open Go.Proofs.Ytjehccemilefgaa.Sg (Sig Row Sized)
open Go.Proofs.Ytjehccemilefgaa.Hs (Ints Keys BoxT)
open Go.Proofs.Ytjehccemilefgaa.Tm (Tm Store termAt isPl isPl_iff Wf of10B)
open Go.Proofs.Ytjehccemilefgaa.Ld (tmP)
def MI (L : List Sig) (ks : List (List Int)) (e : Int) (p : PI) (kd : Int) (ps : List PI) (k : Nat) (l : List PI) : Prop := l.Pairwise ltP ∧ ∀ z, z ∈ l ↔ (z = p ∧ kd = e) ∨ ∃ q ∈ ps.take k, z ∈ kindC L ks e q
section
variable {L : List Sig} {ks : List (List Int)} {e kd : Int} {p : PI} {ps l : List PI} {k : Nat}
theorem MI.init0 (h : kd ≠ e) : MI L ks e p kd ps 0 [] := ⟨.nil, fun z => by simp [h]⟩
theorem MI.init1 (h : kd = e) : MI L ks e p kd ps 0 [p] := ⟨List.pairwise_singleton _ _, fun z => by simp [h]⟩
theorem MI.next (hk : k < ps.length) (h : MI L ks e p kd ps k l) : MI L ks e p kd ps (k + 1) (layAll l (kindC L ks e ps[k])) := by
  refine ⟨layAll_rise h.1, fun z => ?_⟩
  rw [layAll_mem, h.2 z, List.take_succ_eq_append_getElem hk]
  simp only [List.mem_append, List.mem_singleton]
  constructor
  · rintro ((a | ⟨q, hq, hz⟩) | hz)
    · exact .inl a
    · exact .inr ⟨q, .inl hq, hz⟩
    · exact .inr ⟨_, .inr rfl, hz⟩
  · rintro (a | ⟨q, hq | rfl, hz⟩)
    · exact .inl (.inl a)
    · exact .inl (.inr ⟨q, hq, hz⟩)
    · exact .inr hz
theorem MI.done (he : e ≠ 0) (hw : stepF L ks p.1 p.2 = (kd, ps)) (h : MI L ks e p kd ps ps.length l) : l = kindC L ks e p := by
  refine kindC_made he h.1 fun z => ?_
  rw [hw, h.2 z, List.take_length]
theorem MI.len (he : e ≠ 0) (hw : stepF L ks p.1 p.2 = (kd, ps)) (hks : ks.length ≤ 100) (h : MI L ks e p kd ps k l) : l.length ≤ 10000 := by
  have hs : l ⊆ kindC L ks e p := fun z hz => by
    rcases (h.2 z).1 hz with ⟨rfl, hk⟩ | ⟨q, hq, hz⟩
    · exact (kindC_mem he).2 ⟨.self, by rw [hw]; exact hk⟩
    · obtain ⟨h1, h2⟩ := (kindC_mem he).1 hz
      exact (kindC_mem he).2 ⟨(Reach.step .self (by rw [hw]; exact List.mem_of_mem_take hq)).trans h1, h2⟩
  have nd : l.Nodup := h.1.imp fun {a b} hab => by
    rintro rfl
    rcases hab with h | h
    · omega
    · omega
  exact Nat.le_trans (nd.length_le_of_subset hs) (Nat.le_trans (kindC_len e p) (Nat.mul_le_mul hks hks))
theorem few2 (hks : ks.length ≤ 100) (e : Int) (q : PI) : (kindC L ks e q).length ≤ 10000 := Nat.le_trans (kindC_len e q) (Nat.mul_le_mul hks hks)
end
theorem wf_pl {x : Int} (h0 : 0 ≤ x) (h1 : x < 100000) : Wf x := by
  unfold Wf
  omega
set_option maxRecDepth 100000 in
set_option maxHeartbeats 16000000 in
theorem walk (R A S : Option Addr) (nl cl n c m d : Nat) (L : List Sig) (ks : List (List Int)) (sl : List Int) (x y : Int) (w : World) (hnl : nl = L.length) (hr : Row w w.heap.size R L) (hll : L.length ≤ maxLen) (hsz : Sized L) (hn : n = ks.length) (hm : m = sl.length) (hk : Keys w w.heap.size A ks) (hSi : Ints w w.heap.size S sl) (hl : ks.length ≤ 1152921504606846976) (hs : ∀ k ∈ ks, k.length ≤ 1152921504606846976) (hsl : sl.length ≤ 1152921504606846976) (hcap : n ≤ c) (hx : (Lit.int .i64 x).wf = true) (hy : (Lit.int .i64 y).wf = true) :
    Calls Try.prog 7 #[.agg #[.slice R nl cl, .slice A n c, .slice S m d, .int .i64 x, .int .i64 y]] w fun e w' => e = .returned (.bool true) ∧ Q w w' := by
  subst hnl hn hm
  have HQ0 := Lib.hid (((Q.refl w).alloc (Obj.cells #[.slice R L.length cl, .slice A ks.length c, .slice S sl.length d, .int .i64 x, .int .i64 y] 50)).alloc (Obj.cells #[Value.slice A ks.length c, Value.slice S sl.length d] 26))
  have HX := Lib.hid (own_new8 w [.slice R L.length cl, .slice A ks.length c, .slice S sl.length d, .int .i64 x, .int .i64 y] 50)
  have HT := Lib.hid (BoxT.new (w.alloc (Obj.cells #[.slice R L.length cl, .slice A ks.length c, .slice S sl.length d, .int .i64 x, .int .i64 y] 50)) (Value.slice A ks.length c) (Value.slice S sl.length d) 26)
  have HRow := Lib.hid hr
  have HKy := Lib.hid hk
  have CF := Lib.hid (fun (U : World) (p : Q w U) => Tm.of10_any R A S L.length cl ks.length c sl.length d L ks sl U rfl ((hr.q (Nat.le_refl _) p).more p.size) rfl rfl ((hk.q (Nat.le_refl _) p).more p.size) ((hSi.q (Nat.le_refl _) p).more p.size) hll hsz hl hs hsl)
  clear hr hll hsz hk hSi hl hs hsl
  cases hof : of10B L ks sl
  · rw [hof] at CF
    clear hof hx hy
    go_enter Try.func7, Try.ntmps7
    go_upto_region 1 with fail
    generalize hW : w.alloc (Obj.cells #[.slice R L.length cl, .slice A ks.length c, .slice S sl.length d, .int .i64 x, .int .i64 y] 50) = W at *
    clear hW
    have x0 := (HX.out.2 0 _ rfl).1
    have x1 := (HX.out.2 1 _ rfl).1
    have x2 := (HX.out.2 2 _ rfl).1
    have HX2 := Lib.hid (HX.out.q ((Q.refl W).alloc (Obj.cells #[Value.slice A ks.length c, Value.slice S sl.length d] 26)))
    go_upto_region 3 with fail
    generalize hV : W.alloc (Obj.cells #[Value.slice A ks.length c, Value.slice S sl.length d] 26) = V at *
    clear hV x0 x1 x2
    have x3 := (HX2.out.2 3 _ rfl).1
    have x4 := (HX2.out.2 4 _ rfl).1
    go_upto_region 5 with fail
    clear x3 x4
    go_wp2_with fail
    refine (shown10_any _).mono ?_
    rintro e w1 ⟨rfl, q1⟩
    have p1 := Lib.hid (HQ0.out.trans q1)
    have b0 := (HT.out.q q1).c0
    have b1 := (HT.out.q q1).c1
    have HT1 := Lib.hid (HT.out.q q1)
    clear q1
    go_wp2_with fail
    refine (CF.out _ p1.out).mono ?_
    rintro e w2 ⟨rfl, q2⟩
    have p2 := Lib.hid (p1.out.trans q2)
    have HT2 := Lib.hid (HT1.out.q q2)
    clear q2 b0 b1
    have b0 := HT2.out.c0
    have b1 := HT2.out.c1
    go_wp2_with fail
    go_ret
    exact ⟨rfl, p2.out⟩
  · rw [hof] at CF
    obtain ⟨hS, hl8, hs5, h2k⟩ := of10_ok hof
    clear hof
    by_cases hbig : 100 < ks.length
    · have dI : decide (100 < ks.length) = true := decide_eq_true hbig
      have dI' : decide ((100 : Int) < (ks.length : Int)) = true := decide_eq_true (by omega)
      clear hS hl8 hs5 h2k hx hy hbig
      go_enter Try.func7, Try.ntmps7
      go_upto_region 1 with fail
      generalize hW : w.alloc (Obj.cells #[.slice R L.length cl, .slice A ks.length c, .slice S sl.length d, .int .i64 x, .int .i64 y] 50) = W at *
      clear hW
      have x0 := (HX.out.2 0 _ rfl).1
      have x1 := (HX.out.2 1 _ rfl).1
      have x2 := (HX.out.2 2 _ rfl).1
      have HX2 := Lib.hid (HX.out.q ((Q.refl W).alloc (Obj.cells #[Value.slice A ks.length c, Value.slice S sl.length d] 26)))
      go_upto_region 3 with fail
      generalize hV : W.alloc (Obj.cells #[Value.slice A ks.length c, Value.slice S sl.length d] 26) = V at *
      clear hV x0 x1 x2
      have x3 := (HX2.out.2 3 _ rfl).1
      have x4 := (HX2.out.2 4 _ rfl).1
      go_upto_region 5 with fail
      clear x3 x4
      go_wp2_with fail
      refine (shown10_any _).mono ?_
      rintro e w1 ⟨rfl, q1⟩
      have p1 := Lib.hid (HQ0.out.trans q1)
      have b0 := (HT.out.q q1).c0
      have b1 := (HT.out.q q1).c1
      have HT1 := Lib.hid (HT.out.q q1)
      clear q1
      go_wp2_with fail
      refine (CF.out _ p1.out).mono ?_
      rintro e w2 ⟨rfl, q2⟩
      have p2 := Lib.hid (p1.out.trans q2)
      have HT2 := Lib.hid (HT1.out.q q2)
      clear q2 b0 b1
      have b0 := HT2.out.c0
      have b1 := HT2.out.c1
      go_wp2_with fail
      go_ret
      exact ⟨rfl, p2.out⟩
    · have dI : decide (100 < ks.length) = false := decide_eq_false hbig
      have dI' : decide ((100 : Int) < (ks.length : Int)) = false := decide_eq_false (by omega)
      have hks : ks.length ≤ 100 := by omega
      obtain ⟨⟨kd, ps⟩, hw⟩ : ∃ p, stepF L ks x y = p := ⟨_, rfl⟩
      have CT : Hid (∀ U, Q w U → Calls Try.prog 11 #[.slice R L.length cl, .agg #[.slice A ks.length c, .slice S sl.length d], .int .i64 x, .int .i64 y] U fun e w' => ∃ A c, e = .returned (.agg #[.int .i64 kd, .slice A ps.length c]) ∧ Rds w' w'.heap.size A (cellsQ ps) ∧ Q U w') := fun U p => by
        have := step10_any R A S L.length cl ks.length c sl.length d L ks x y U rfl ((HRow.out.q (Nat.le_refl _) p).more p.size) rfl ((HKy.out.q (Nat.le_refl _) p).more p.size) hS hl8 hs5 hcap
        rw [hw] at this
        refine this.mono ?_
        rintro e w' ⟨A1, c1, he, hr, hq, _⟩
        exact ⟨A1, c1, he, hr, hq⟩
      have hkk := step_kinds (L := L) (ks := ks) x y
      rw [hw] at hkk
      have HKK : Hid ((kd = 0 ∨ kd = 1 ∨ kd = 2 ∨ kd = 3) ∧ (kd = 1 ∨ ps = [])) := hkk
      have hlen := step_len hS hl8 x y
      rw [hw] at hlen
      have hpl : ps.length ≤ 18 := hlen
      have hwf : ∀ z ∈ ps, WfP z := fun z hz => by
        obtain ⟨a, b⟩ := step_places hS (x := x) (y := y) (z := z) (by rw [hw]; exact hz)
        obtain ⟨a0, a1⟩ := (isPl_iff _ _).1 a
        obtain ⟨b0, b1⟩ := (isPl_iff _ _).1 b
        exact ⟨wf_pl a0 (by omega), wf_pl b0 (by omega)⟩
      have HWf := Lib.hid hwf
      have CA := Lib.hid (fun (z : PI) (hz : WfP z) (U : World) (p : Q w U) => all10_any R A S L.length cl ks.length c sl.length d L ks z.1 z.2 U rfl ((HRow.out.q (Nat.le_refl _) p).more p.size) rfl ((HKy.out.q (Nat.le_refl _) p).more p.size) hS hl8 hs5 hcap hks hz)
      have C0 : Hid (∀ U, Q w U → Calls Try.prog 17 #[.slice R L.length cl, .agg #[.slice A ks.length c, .slice S sl.length d], .int .i64 x, .int .i64 y] U (AllPost L ks (x, y) U)) := fun U p => CA.out (x, y) ⟨wf_of hx, wf_of hy⟩ U p
      have HS := Lib.hid hw
      have HF2 := Lib.hid (fun q => few2 (L := L) hks 2 q)
      have HF3 := Lib.hid (fun q => few2 (L := L) hks 3 q)
      have HM2 := Lib.hid (fun (k : Nat) (l : List PI) (h : MI L ks 2 (x, y) kd ps k l) => h.len (by decide) hw hks)
      have HM3 := Lib.hid (fun (k : Nat) (l : List PI) (h : MI L ks 3 (x, y) kd ps k l) => h.len (by decide) hw hks)
      clear hkk hlen hw hS hl8 hs5 h2k hx hy hwf hcap hbig hks
      go_enter Try.func7, Try.ntmps7
      go_upto_region 1 with fail
      generalize hW : w.alloc (Obj.cells #[.slice R L.length cl, .slice A ks.length c, .slice S sl.length d, .int .i64 x, .int .i64 y] 50) = W at *
      clear hW
      have x0 := (HX.out.2 0 _ rfl).1
      have x1 := (HX.out.2 1 _ rfl).1
      have x2 := (HX.out.2 2 _ rfl).1
      have HX2 := Lib.hid (HX.out.q ((Q.refl W).alloc (Obj.cells #[Value.slice A ks.length c, Value.slice S sl.length d] 26)))
      go_upto_region 3 with fail
      generalize hV : W.alloc (Obj.cells #[Value.slice A ks.length c, Value.slice S sl.length d] 26) = V at *
      clear hV x0 x1 x2
      have x3 := (HX2.out.2 3 _ rfl).1
      have x4 := (HX2.out.2 4 _ rfl).1
      go_upto_region 5 with fail
      clear x3 x4
      go_wp2_with fail
      refine (shown10_any _).mono ?_
      rintro e w1 ⟨rfl, q1⟩
      have p1 := Lib.hid (HQ0.out.trans q1)
      have b0 := (HT.out.q q1).c0
      have b1 := (HT.out.q q1).c1
      have HT1 := Lib.hid (HT.out.q q1)
      clear q1
      go_wp2_with fail
      refine (CF.out _ p1.out).mono ?_
      rintro e w2 ⟨rfl, q2⟩
      have p2 := Lib.hid (p1.out.trans q2)
      have HT2 := Lib.hid (HT1.out.q q2)
      clear q2 b0 b1
      have b0 := HT2.out.c0
      have b1 := HT2.out.c1
      go_wp2_with fail
      refine (CT.out _ p2.out).mono ?_
      rintro e w3 ⟨A3, c3, rfl, r3, q3⟩
      have HW := Lib.hid (BoxT.new w3 (.int .i64 kd) (.slice A3 ps.length c3) 33)
      have q3' := q3.alloc (Obj.cells #[.int .i64 kd, .slice A3 ps.length c3] 33)
      have HA3 := Lib.hid (r3.q ((Q.refl w3).alloc (Obj.cells #[.int .i64 kd, .slice A3 ps.length c3] 33)))
      have p3 := Lib.hid (p2.out.trans q3')
      have HT3 := Lib.hid (HT2.out.q q3')
      clear b0 b1 q3 r3 q3'
      go_upto_region 9 with fail
      generalize hV3 : w3.alloc (Obj.cells #[.int .i64 kd, .slice A3 ps.length c3] 33) = V3 at *
      clear hV3
      have b0 := HT3.out.c0
      have b1 := HT3.out.c1
      go_wp2_with fail
      refine (C0.out _ p3.out).mono ?_
      rintro e w4 ⟨A4, c4, B4, d4, rfl, r4, s4, q4⟩
      have HA4 := Lib.hid r4
      have HB4 := Lib.hid s4
      have p4 := Lib.hid (p3.out.trans q4)
      have HT4 := Lib.hid (HT3.out.q q4)
      have HW4 := Lib.hid (HW.out.q q4)
      have HAA := Lib.hid (HA3.out.q q4)
      have v0 := HW4.out.c0
      have v1 := HW4.out.c1
      clear b0 b1 q4 r4 s4 HW HA3 HT3
      obtain ⟨hk0, hk1⟩ := HKK.out
      clear HKK
      rcases hk0 with rfl | rfl | rfl | rfl
      · have hps : ps = [] := by
          rcases hk1 with h | h
          · exact absurd h (by decide)
          · exact h
        subst hps
        go_wp2_with fail
        clear v0 v1
        go_loopw [11, 12, 13] (fun u1 u2 iv wr => ∃ (k : Nat) (at' cl' : List PI) (A1 : Option Addr) (c1 : Nat) (A2 : Option Addr) (c2 : Nat), k ≤ 0 ∧ iv = .int .i64 k ∧ u1 = .slice A1 at'.length c1 ∧ u2 = .slice A2 cl'.length c2 ∧ Hid (MI L ks 2 (x, y) 0 [] k at') ∧ Hid (MI L ks 3 (x, y) 0 [] k cl') ∧ Hid (at'.length ≤ c1 ∧ Rds wr wr.heap.size A1 (cellsQ at')) ∧ Hid (cl'.length ≤ c2 ∧ Rds wr wr.heap.size A2 (cellsQ cl')) ∧ Hid (Q w4 wr)) (fun _ _ iv _ => 0 - (intOf iv).toNat)
        case atStart => exact ⟨0, [], [], none, 0, none, 0, Nat.zero_le _, rfl, rfl, rfl, Lib.hid (MI.init0 (by decide)), Lib.hid (MI.init0 (by decide)), Lib.hid ⟨Nat.zero_le _, Rds.nil _ _ _⟩, Lib.hid ⟨Nat.zero_le _, Rds.nil _ _ _⟩, Lib.hid (Q.refl w4)⟩
        case round =>
          obtain ⟨k, at', cl', A1, c1, A2, c2, hk, rfl, rfl, rfl, HI2, HI3, HR1, HR2, HQ⟩ := hrel
          have v0 := (HW4.out.q HQ.out).c0
          have v1 := (HW4.out.q HQ.out).c1
          have hk00 : k = 0 := by omega
          subst hk00
          have ha := HI2.out.done (by decide) HS.out
          have hc := HI3.out.done (by decide) HS.out
          have pz := Lib.hid (p4.out.trans HQ.out)
          have HX4 := Lib.hid (HA4.out.q HQ.out)
          have HY4 := Lib.hid (HB4.out.q HQ.out)
          subst ha hc
          go_wp2_with fail
          refine (refPairsEq_any _ _ _ _ _ _ _ _ _ rfl rfl HX4.out HR1.out.2 (by have := HF2.out (x, y); omega)).mono ?_
          rintro e w8 ⟨rfl, q8⟩
          rw [(sameQ_iff (kindC L ks 2 (x, y)) _).2 rfl]
          have p8 := Lib.hid (pz.out.trans q8)
          have HY8 := Lib.hid (HY4.out.q q8)
          have HR8 := Lib.hid (HR2.out.2.q q8)
          clear q8
          go_wp2_with fail
          refine (refPairsEq_any _ _ _ _ _ _ _ _ _ rfl rfl HY8.out HR8.out (by have := HF3.out (x, y); omega)).mono ?_
          rintro e w9 ⟨rfl, q9⟩
          rw [(sameQ_iff (kindC L ks 3 (x, y)) _).2 rfl]
          have p9 := Lib.hid (p8.out.trans q9)
          clear q9
          go_wp2_with fail
          go_ret
          exact ⟨rfl, p9.out⟩
      · have hps9 := hpl
        go_wp2_with fail
        clear v0 v1 hps9 hk1
        go_loopw [11, 12, 13] (fun u1 u2 iv wr => ∃ (k : Nat) (at' cl' : List PI) (A1 : Option Addr) (c1 : Nat) (A2 : Option Addr) (c2 : Nat), k ≤ ps.length ∧ iv = .int .i64 k ∧ u1 = .slice A1 at'.length c1 ∧ u2 = .slice A2 cl'.length c2 ∧ Hid (MI L ks 2 (x, y) 1 ps k at') ∧ Hid (MI L ks 3 (x, y) 1 ps k cl') ∧ Hid (at'.length ≤ c1 ∧ Rds wr wr.heap.size A1 (cellsQ at')) ∧ Hid (cl'.length ≤ c2 ∧ Rds wr wr.heap.size A2 (cellsQ cl')) ∧ Hid (Q w4 wr)) (fun _ _ iv _ => ps.length - (intOf iv).toNat)
        case atStart => exact ⟨0, [], [], none, 0, none, 0, Nat.zero_le _, rfl, rfl, rfl, Lib.hid (MI.init0 (by decide)), Lib.hid (MI.init0 (by decide)), Lib.hid ⟨Nat.zero_le _, Rds.nil _ _ _⟩, Lib.hid ⟨Nat.zero_le _, Rds.nil _ _ _⟩, Lib.hid (Q.refl w4)⟩
        case round =>
          obtain ⟨k, at', cl', A1, c1, A2, c2, hk, rfl, rfl, rfl, HI2, HI3, HR1, HR2, HQ⟩ := hrel
          have v0 := (HW4.out.q HQ.out).c0
          have v1 := (HW4.out.q HQ.out).c1
          by_cases hlt : k < ps.length
          · obtain ⟨ad, rfl, had, e0, e1⟩ := pair_at (HAA.out.q HQ.out) hlt
            have hwz := HWf.out ps[k] (List.getElem_mem hlt)
            have CZ := Lib.hid (fun (U : World) (p : Q wr U) => CA.out ps[k] hwz U ((p4.out.trans HQ.out).trans p))
            have hN2 := Lib.hid (HI2.out.next hlt)
            have hN3 := Lib.hid (HI3.out.next hlt)
            have hL2 := Lib.hid (HM2.out _ _ HI2.out)
            have hL3 := Lib.hid (HM3.out _ _ HI3.out)
            generalize ps[k] = z at *
            have hR2 := Lib.hid (HF2.out z)
            have hR3 := Lib.hid (HF3.out z)
            unfold AllPost at CZ
            generalize kindC L ks 2 z = r at *
            generalize kindC L ks 3 z = s at *
            have b0 := (HT4.out.q HQ.out).c0
            have b1 := (HT4.out.q HQ.out).c1
            have hb0 := (HT4.out.q HQ.out).lt
            have hb1 := (HW4.out.q HQ.out).lt
            have hb2 : (ad.add (k * 2)).block < wr.heap.size := by rw [add_block]; exact had
            have j1 : (k : Int) < (ps.length : Int) := by omega
            have j0 : (0 : Int) ≤ (k : Int) := Int.natCast_nonneg _
            have HR1w := HR1
            have HR2w := HR2
            have HQw := HQ
            clear HI2 HI3 hwz HR1 HR2 HQ had
            go_wp2_with fail
            go_region_held3 (fun w' => w'.cell? ⟨W.heap.size, 0, none⟩ = some (.slice A ks.length c) ∧ w'.cell? ⟨W.heap.size, 1, none⟩ = some (.slice S sl.length d) ∧ w'.cell? ⟨w3.heap.size, 0, none⟩ = some (.int .i64 1) ∧ w'.cell? ⟨w3.heap.size, 1, none⟩ = some (.slice (some ad) ps.length c3) ∧ w'.cell? (ad.add (k * 2)) = some (.int .i64 z.1) ∧ w'.cell? ⟨(ad.add (k * 2)).block, (ad.add (k * 2)).off + 1, none⟩ = some (.int .i64 z.2))
              (first | (with_reducible exact ⟨(q5.cell (p := ⟨W.heap.size, 0, none⟩) hb0).trans b0, (q5.cell (p := ⟨W.heap.size, 1, none⟩) hb0).trans b1, (q5.cell (p := ⟨w3.heap.size, 0, none⟩) hb1).trans v0, (q5.cell (p := ⟨w3.heap.size, 1, none⟩) hb1).trans v1, (q5.cell (p := ad.add (k * 2)) hb2).trans e0, (q5.cell (p := ⟨(ad.add (k * 2)).block, (ad.add (k * 2)).off + 1, none⟩) hb2).trans e1⟩) | go_keep)
              (first | (go_at_call 17; refine (CZ.out _ (Q.refl wr).drew).mono ?_; rintro e w5 ⟨A5, c5, B5, d5, rfl, r5, s5, q5d⟩; have HA5 := Lib.hid r5; have HB5 := Lib.hid s5; have q5 : Q wr w5 := (Q.refl wr).drew.trans q5d; clear r5 s5 q5d))
            have HQ5 := Lib.hid (HQw.out.trans q5)
            have HR1 : Hid (at'.length ≤ c1 ∧ Rds w5 w5.heap.size A1 (cellsQ at')) := ⟨HR1w.out.1, HR1w.out.2.q q5⟩
            have HR2 : Hid (cl'.length ≤ c2 ∧ Rds w5 w5.heap.size A2 (cellsQ cl')) := ⟨HR2w.out.1, HR2w.out.2.q q5⟩
            clear HR1w HR2w HQw q5 b0 b1 v0 v1 e0 e1 hb0 hb1 hb2 CZ
            go_wp2_with fail
            go_loopw [11, 16] (fun u1 jv wr => ∃ (j : Nat) (a2 : List PI) (A1 : Option Addr) (c1 : Nat), j ≤ r.length ∧ jv = .int .i64 j ∧ u1 = .slice A1 a2.length c1 ∧ Hid (layAll at' r = layAll a2 (r.drop j)) ∧ Hid (a2.length ≤ at'.length + j) ∧ Hid (a2.length ≤ c1 ∧ Rds wr wr.heap.size A1 (cellsQ a2)) ∧ Hid (Q w5 wr)) (fun _ jv _ => r.length - (intOf jv).toNat)
            case atStart => exact ⟨0, at', _, _, Nat.zero_le _, rfl, rfl, Lib.hid (by simp), Lib.hid (by omega), HR1, Lib.hid (Q.refl w5)⟩
            case round =>
              obtain ⟨j, a2, X1, y1, hj, rfl, rfl, HE, HN, HX, HQx⟩ := hrel
              have hlr := hR2.out
              have hla := hL2.out
              by_cases hjl : j < r.length
              · obtain ⟨ae, hae, hab, f0, f1⟩ := pair_at (HA5.out.q HQx.out) hjl
                have hE2 := HE.out.trans (layAll_at a2 r j hjl)
                generalize r[j] = zz at *
                have HE2 := Lib.hid hE2
                have HL2 : Hid ((layP a2 zz).length ≤ at'.length + (j + 1)) := by have := layP_len zz a2; have := HN.out; unfold Hid; omega
                have i1 : (j : Int) < (r.length : Int) := by omega
                have i0 : (0 : Int) ≤ (j : Int) := Int.natCast_nonneg _
                have hj9 : j < 100000 := by omega
                have hl9 := Lib.hid (show a2.length ≤ 1000000 by have := HN.out; omega)
                clear hE2 HE HN hlr hla
                subst hae
                go_wp2_with fail
                refine (refLayP_any X1 a2.length y1 a2 zz _ rfl HX.out.1 HX.out.2 hl9.out).mono ?_
                rintro e wy ⟨vy, rfl, hoy, qy⟩
                obtain ⟨Y1, y2, rfl, hyle, hry, _⟩ := own_open2 hoy
                have HY := Lib.hid (And.intro hyle hry)
                have HQy := Lib.hid (HQx.out.trans qy)
                clear hoy qy hyle hry f0 f1
                go_wp2_with fail
                go_roundw
                case rel => exact ⟨j + 1, layP a2 zz, Y1, y2, by omega, by go_num, rfl, HE2, HL2, HY, HQy⟩
                case measure => simp [intOf]; omega
              · have i1 : ¬ (j : Int) < (r.length : Int) := by omega
                have hE2 : layAll at' r = a2 := by rw [HE.out, List.drop_eq_nil_of_le (by omega)]; rfl
                subst hE2
                clear HE HN hlr hla
                have HB6 := Lib.hid (HB5.out.q HQx.out)
                have HR26 : Hid (cl'.length ≤ c2 ∧ Rds wr wr.heap.size A2 (cellsQ cl')) := ⟨HR2.out.1, HR2.out.2.q HQx.out⟩
                have HQ6 := Lib.hid (HQ5.out.trans HQx.out)
                have HX6 := HX
                clear HX HQx HR2 HQ5 HB5 HR1 HA5
                generalize wr = w6 at *
                go_wp2_with fail
                go_loopw [12, 17] (fun u1 jv wr => ∃ (j : Nat) (a2 : List PI) (A1 : Option Addr) (c1 : Nat), j ≤ s.length ∧ jv = .int .i64 j ∧ u1 = .slice A1 a2.length c1 ∧ Hid (layAll cl' s = layAll a2 (s.drop j)) ∧ Hid (a2.length ≤ cl'.length + j) ∧ Hid (a2.length ≤ c1 ∧ Rds wr wr.heap.size A1 (cellsQ a2)) ∧ Hid (Q w6 wr)) (fun _ jv _ => s.length - (intOf jv).toNat)
                case atStart => exact ⟨0, cl', _, _, Nat.zero_le _, rfl, rfl, Lib.hid (by simp), Lib.hid (by omega), HR26, Lib.hid (Q.refl w6)⟩
                case round =>
                  obtain ⟨j, a2, X1, y1, hj, rfl, rfl, HE, HN, HX, HQx⟩ := hrel
                  have hlr := hR3.out
                  have hla := hL3.out
                  by_cases hjl : j < s.length
                  · obtain ⟨ae, hae, hab, f0, f1⟩ := pair_at (HB6.out.q HQx.out) hjl
                    have hE2 := HE.out.trans (layAll_at a2 s j hjl)
                    generalize s[j] = zz at *
                    have HE2 := Lib.hid hE2
                    have HL2 : Hid ((layP a2 zz).length ≤ cl'.length + (j + 1)) := by have := layP_len zz a2; have := HN.out; unfold Hid; omega
                    have i1 : (j : Int) < (s.length : Int) := by omega
                    have i0 : (0 : Int) ≤ (j : Int) := Int.natCast_nonneg _
                    have hj9 : j < 100000 := by omega
                    have hl9 := Lib.hid (show a2.length ≤ 1000000 by have := HN.out; omega)
                    clear hE2 HE HN hlr hla
                    subst hae
                    go_wp2_with fail
                    refine (refLayP_any X1 a2.length y1 a2 zz _ rfl HX.out.1 HX.out.2 hl9.out).mono ?_
                    rintro e wy ⟨vy, rfl, hoy, qy⟩
                    obtain ⟨Y1, y2, rfl, hyle, hry, _⟩ := own_open2 hoy
                    have HY := Lib.hid (And.intro hyle hry)
                    have HQy := Lib.hid (HQx.out.trans qy)
                    clear hoy qy hyle hry f0 f1
                    go_wp2_with fail
                    go_roundw
                    case rel => exact ⟨j + 1, layP a2 zz, Y1, y2, by omega, by go_num, rfl, HE2, HL2, HY, HQy⟩
                    case measure => simp [intOf]; omega
                  · have i1 : ¬ (j : Int) < (s.length : Int) := by omega
                    have hE2 : layAll cl' s = a2 := by rw [HE.out, List.drop_eq_nil_of_le (by omega)]; rfl
                    subst hE2
                    clear HE HN hlr hla
                    have HX7 := Lib.hid (And.intro HX6.out.1 (HX6.out.2.q HQx.out))
                    have HQ7 := Lib.hid (HQ6.out.trans HQx.out)
                    go_wp2_with fail
                    go_roundw
                    case rel => exact ⟨k + 1, layAll at' r, layAll cl' s, _, _, _, _, by omega, by go_num, rfl, rfl, hN2, hN3, HX7, HX, HQ7⟩
                    case measure => simp [intOf]; omega
          · have hkk : k = ps.length := by omega
            subst hkk
            have j1 : ¬ (ps.length : Int) < (ps.length : Int) := by omega
            have ha := HI2.out.done (by decide) HS.out
            have hc := HI3.out.done (by decide) HS.out
            have pz := Lib.hid (p4.out.trans HQ.out)
            have HX4 := Lib.hid (HA4.out.q HQ.out)
            have HY4 := Lib.hid (HB4.out.q HQ.out)
            subst ha hc
            go_wp2_with fail
            refine (refPairsEq_any _ _ _ _ _ _ _ _ _ rfl rfl HX4.out HR1.out.2 (by have := HF2.out (x, y); omega)).mono ?_
            rintro e w8 ⟨rfl, q8⟩
            rw [(sameQ_iff (kindC L ks 2 (x, y)) _).2 rfl]
            have p8 := Lib.hid (pz.out.trans q8)
            have HY8 := Lib.hid (HY4.out.q q8)
            have HR8 := Lib.hid (HR2.out.2.q q8)
            clear q8
            go_wp2_with fail
            refine (refPairsEq_any _ _ _ _ _ _ _ _ _ rfl rfl HY8.out HR8.out (by have := HF3.out (x, y); omega)).mono ?_
            rintro e w9 ⟨rfl, q9⟩
            rw [(sameQ_iff (kindC L ks 3 (x, y)) _).2 rfl]
            have p9 := Lib.hid (p8.out.trans q9)
            clear q9
            go_wp2_with fail
            go_ret
            exact ⟨rfl, p9.out⟩
      · have hps : ps = [] := by
          rcases hk1 with h | h
          · exact absurd h (by decide)
          · exact h
        subst hps
        go_upto_region 14 with fail
        have HQ5 := Lib.hid ((Q.refl w4).alloc (Obj.cells #[.int .i64 x, .int .i64 y] 46))
        have HONE := Lib.hid (own_new8 w4 [.int .i64 x, .int .i64 y] 46)
        have HW5 := Lib.hid (HW4.out.q ((Q.refl w4).alloc (Obj.cells #[.int .i64 x, .int .i64 y] 46)))
        clear v0 v1
        generalize hW5 : w4.alloc (Obj.cells #[.int .i64 x, .int .i64 y] 46) = W5 at *
        clear hW5
        have v0 := HW5.out.c0
        have v1 := HW5.out.c1
        go_wp2_with fail
        clear v0 v1
        go_loopw [11, 12, 13] (fun u1 u2 iv wr => ∃ (k : Nat) (at' cl' : List PI) (A1 : Option Addr) (c1 : Nat) (A2 : Option Addr) (c2 : Nat), k ≤ 0 ∧ iv = .int .i64 k ∧ u1 = .slice A1 at'.length c1 ∧ u2 = .slice A2 cl'.length c2 ∧ Hid (MI L ks 2 (x, y) 2 [] k at') ∧ Hid (MI L ks 3 (x, y) 2 [] k cl') ∧ Hid (at'.length ≤ c1 ∧ Rds wr wr.heap.size A1 (cellsQ at')) ∧ Hid (cl'.length ≤ c2 ∧ Rds wr wr.heap.size A2 (cellsQ cl')) ∧ Hid (Q w4 wr)) (fun _ _ iv _ => 0 - (intOf iv).toNat)
        case atStart => exact ⟨0, [(x, y)], [], some ⟨w4.heap.size, 0, none⟩, 1, none, 0, Nat.zero_le _, rfl, rfl, rfl, Lib.hid (MI.init1 rfl), Lib.hid (MI.init0 (by decide)), Lib.hid ⟨Nat.le_refl _, HONE.out.rds⟩, Lib.hid ⟨Nat.zero_le _, Rds.nil _ _ _⟩, HQ5⟩
        case round =>
          obtain ⟨k, at', cl', A1, c1, A2, c2, hk, rfl, rfl, rfl, HI2, HI3, HR1, HR2, HQ⟩ := hrel
          have v0 := (HW4.out.q HQ.out).c0
          have v1 := (HW4.out.q HQ.out).c1
          have hk00 : k = 0 := by omega
          subst hk00
          have ha := HI2.out.done (by decide) HS.out
          have hc := HI3.out.done (by decide) HS.out
          have pz := Lib.hid (p4.out.trans HQ.out)
          have HX4 := Lib.hid (HA4.out.q HQ.out)
          have HY4 := Lib.hid (HB4.out.q HQ.out)
          subst ha hc
          go_wp2_with fail
          refine (refPairsEq_any _ _ _ _ _ _ _ _ _ rfl rfl HX4.out HR1.out.2 (by have := HF2.out (x, y); omega)).mono ?_
          rintro e w8 ⟨rfl, q8⟩
          rw [(sameQ_iff (kindC L ks 2 (x, y)) _).2 rfl]
          have p8 := Lib.hid (pz.out.trans q8)
          have HY8 := Lib.hid (HY4.out.q q8)
          have HR8 := Lib.hid (HR2.out.2.q q8)
          clear q8
          go_wp2_with fail
          refine (refPairsEq_any _ _ _ _ _ _ _ _ _ rfl rfl HY8.out HR8.out (by have := HF3.out (x, y); omega)).mono ?_
          rintro e w9 ⟨rfl, q9⟩
          rw [(sameQ_iff (kindC L ks 3 (x, y)) _).2 rfl]
          have p9 := Lib.hid (p8.out.trans q9)
          clear q9
          go_wp2_with fail
          go_ret
          exact ⟨rfl, p9.out⟩
      · have hps : ps = [] := by
          rcases hk1 with h | h
          · exact absurd h (by decide)
          · exact h
        subst hps
        go_wp2_with fail
        clear v0 v1
        go_loopw [11, 12, 13] (fun u1 u2 iv wr => ∃ (k : Nat) (at' cl' : List PI) (A1 : Option Addr) (c1 : Nat) (A2 : Option Addr) (c2 : Nat), k ≤ 0 ∧ iv = .int .i64 k ∧ u1 = .slice A1 at'.length c1 ∧ u2 = .slice A2 cl'.length c2 ∧ Hid (MI L ks 2 (x, y) 3 [] k at') ∧ Hid (MI L ks 3 (x, y) 3 [] k cl') ∧ Hid (at'.length ≤ c1 ∧ Rds wr wr.heap.size A1 (cellsQ at')) ∧ Hid (cl'.length ≤ c2 ∧ Rds wr wr.heap.size A2 (cellsQ cl')) ∧ Hid (Q w4 wr)) (fun _ _ iv _ => 0 - (intOf iv).toNat)
        case atStart => exact ⟨0, [], [(x, y)], none, 0, some ⟨w4.heap.size, 0, none⟩, 1, Nat.zero_le _, rfl, rfl, rfl, Lib.hid (MI.init0 (by decide)), Lib.hid (MI.init1 rfl), Lib.hid ⟨Nat.zero_le _, Rds.nil _ _ _⟩, Lib.hid ⟨Nat.le_refl _, (own_new8 w4 [.int .i64 x, .int .i64 y] 46).rds⟩, Lib.hid ((Q.refl w4).alloc (Obj.cells #[.int .i64 x, .int .i64 y] 46))⟩
        case round =>
          obtain ⟨k, at', cl', A1, c1, A2, c2, hk, rfl, rfl, rfl, HI2, HI3, HR1, HR2, HQ⟩ := hrel
          have v0 := (HW4.out.q HQ.out).c0
          have v1 := (HW4.out.q HQ.out).c1
          have hk00 : k = 0 := by omega
          subst hk00
          have ha := HI2.out.done (by decide) HS.out
          have hc := HI3.out.done (by decide) HS.out
          have pz := Lib.hid (p4.out.trans HQ.out)
          have HX4 := Lib.hid (HA4.out.q HQ.out)
          have HY4 := Lib.hid (HB4.out.q HQ.out)
          subst ha hc
          go_wp2_with fail
          refine (refPairsEq_any _ _ _ _ _ _ _ _ _ rfl rfl HX4.out HR1.out.2 (by have := HF2.out (x, y); omega)).mono ?_
          rintro e w8 ⟨rfl, q8⟩
          rw [(sameQ_iff (kindC L ks 2 (x, y)) _).2 rfl]
          have p8 := Lib.hid (pz.out.trans q8)
          have HY8 := Lib.hid (HY4.out.q q8)
          have HR8 := Lib.hid (HR2.out.2.q q8)
          clear q8
          go_wp2_with fail
          refine (refPairsEq_any _ _ _ _ _ _ _ _ _ rfl rfl HY8.out HR8.out (by have := HF3.out (x, y); omega)).mono ?_
          rintro e w9 ⟨rfl, q9⟩
          rw [(sameQ_iff (kindC L ks 3 (x, y)) _).2 rfl]
          have p9 := Lib.hid (p8.out.trans q9)
          clear q9
          go_wp2_with fail
          go_ret
          exact ⟨rfl, p9.out⟩

set_option maxRecDepth 100000 in
theorem lifted (os : Os) (started : os.Started) (H : Type) (enc : TypeId × Value → H) :
    ReturnsInHanded {} Try.checked os 7 .any (Rows.stepMadeSpec.pre6 enc Try.prog Try.f7 Rows.stepMadeRow.domain false) (Rows.stepMadeSpec.post enc Try.prog Try.f7 false true false false) := by
  refine returnsInHanded_of_change_sized (C := Try.checked) own started (by kernel_rfl) Try.func7
    (ChangeSpec.witness6 (enc := enc) (C := Try.checked) false ⟨#[], #[.agg #[.slice none 0 0, .slice none 0 0, .slice none 0 0, .int .i64 0, .int .i64 0]], []⟩ 8 (by kernel_rfl) (by kernel_rfl) (by kernel_rfl) (by kernel_rfl)) ?_
  intro W base args ds gs before hval0 hW hcnd hsz0 _
  have hval : ∀ (j : Nat) t v, Try.f7.params[j]? = some t → args[j]? = some v → Value.okWide Try.prog W .any base t v := hval0
  have hW' := hW
  obtain ⟨p, q, hA0, hV, rfl, hfz, hnd⟩ := hW
  have hA : DataW.TrodAll enc Try.prog W 0 (fun _ => true) true Try.f7.params.toList args.toList ds p := hA0
  rw [Try.params7] at hA hval
  obtain ⟨v0, vs0, d0, ds0, p0, q0, hargs, rfl, rfl, h0, r0⟩ := trodAll_cons hA
  obtain ⟨rfl, rfl, rfl⟩ := trodAll_nil r0
  obtain rfl : args = #[v0] := by cases args; simp_all
  obtain ⟨rfl, rfl⟩ := trodVars_none hV
  have z0 : ∀ n ∈ d0.weights Try.prog 50, n ≤ reachBytes := fun n hn => by
    have := List.all_eq_true.1 hsz0 n (DataW.weights_mem_each (j := 0) (t := 50) (d := d0) (by rw [Try.params7]; rfl) rfl n hn)
    simpa using this
  obtain ⟨R, nl, cl, L, A, n, c, S, m, d, ks, sl, x, y, rfl, a1, a2, a3, a4, hn, hm, hk, hS, hl, hs, hsl, hcap, hx, hy⟩ := open_StepMadeIn (hval 0 50 v0 rfl rfl) h0 z0
  clear hA0 hval0
  refine (walk R A S nl cl n c m d L ks sl x y _ a1 a2 a3 a4 hn hm hk hS hl hs hsl hcap hx hy).mono fun e W' ⟨he, hg⟩ => ?_
  subst he
  exact ⟨_, rfl, post_law laid (by rw [Try.params7]; decide +kernel) rfl rfl (by kernel_rfl) Try.underlying4 hW' hg⟩

/-- THE STATEMENT -/
theorem proved : Rows.StepMadeSaid :=
  OpenClaim.holds_of_wide 7 Try.f7 rfl rfl rfl rfl rfl rfl rfl ⟨rfl, rfl, rfl, rfl, rfl⟩ rfl rfl rfl rfl rfl (by kernel_rfl) Try.func7 (by kernel_rfl)
    (of_decide_eq_true (by kernel_rfl)) (by unfold Func.isWrapper; first | (rw [if_pos (by decide +kernel)]; kernel_rfl) | (rw [if_neg (by decide +kernel)]; exact ⟨rfl, rfl⟩))
    (fun os started H enc _ => lifted os started H enc)
end Go.Proofs.Ytjehccemilefgaa.stepMade
