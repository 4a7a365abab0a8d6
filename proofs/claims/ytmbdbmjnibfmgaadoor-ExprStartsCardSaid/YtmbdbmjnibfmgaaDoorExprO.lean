/-
  Contract of the reader's goOn.
-/
import Derived.Test.YtmbdbmjnibfmgaaDoorExprJ
namespace Go.Proofs.YtmbdbmjnibfmgaaDoor.Ex
open Go.RowKit Kit Rw
open Go.Proofs.YtmbdbmjnibfmgaaDoor.Nm

/-- what goOn comes to, from a state whose last level's node is not laid yet: the place, the nodes, the levels; whether a part follows -/
inductive GoOn (toks : List Tg) : Nat → List Tg → List Lv → Bool → Nat → List Tg → List Lv → Prop where
  | bar {p ns bs t s} (hs : s = ⟨#[]⟩ ∨ s = ⟨#[124]⟩) (hp : p < toks.length) (h : toks[p].1 = 3 ∧ toks[p].2.1 = ⟨#[124]⟩) : GoOn toks p ns (bs ++ [(t, s)]) true (p + 1) (ns ++ joinN s) (bs ++ [(t, ⟨#[124]⟩)])
  | amp {p ns bs t s} (hs : s = ⟨#[]⟩ ∨ s = ⟨#[38]⟩) (hp : p < toks.length) (h : toks[p].1 = 3 ∧ toks[p].2.1 = ⟨#[38]⟩) : GoOn toks p ns (bs ++ [(t, s)]) true (p + 1) (ns ++ joinN s) (bs ++ [(t, ⟨#[38]⟩)])
  | stop {p ns t s} (hs : SgnOk s) (hp : p = toks.length) : GoOn toks p ns [(t, s)] false p (ns ++ joinN s) [(t, s)]
  | comma {p ns bs nm s} {m : Nat} (hs : SgnOk s) (hb : 0 < bs.length) (hm : m < 8) (hp : p < toks.length) (h : toks[p].1 = 3 ∧ toks[p].2.1 = ⟨#[44]⟩) :
      GoOn toks p ns (bs ++ [((3, nm, (m : Int)), s)]) true (p + 1) (ns ++ joinN s) (bs ++ [((3, nm, ((m + 1 : Nat) : Int)), ⟨#[]⟩)])
  | pop {p ns bs t s b p' ns' ss'} (hs : SgnOk s) (hb : 0 < bs.length) (hp : p < toks.length) (h : toks[p].1 = 3 ∧ toks[p].2.1 = ⟨#[41]⟩) (hg : GoOn toks (p + 1) (ns ++ joinN s ++ endN t) bs b p' ns' ss') :
      GoOn toks p ns (bs ++ [(t, s)]) b p' ns' ss'
theorem isSg_at {toks : List Tg} {p : Nat} (hp : p < toks.length) {x : ByteArray} (h : toks[p].1 = 3 ∧ toks[p].2.1 = x) (s : ByteArray) : isSg toks p s = eqS x s := by
  unfold isSg
  rw [List.getElem?_eq_getElem hp]
  simp only [h.1, h.2]
  rfl
theorem isSg_end {toks : List Tg} {p : Nat} (hp : p = toks.length) (s : ByteArray) : isSg toks p s = false := by
  unfold isSg
  rw [List.getElem?_eq_none (by omega)]
theorem eqS_dec (a b : ByteArray) : eqS a b = decide (a.data = b.data) := by
  rw [Bool.eq_iff_iff, eqS_iff, decide_eq_true_eq]
  exact ⟨fun h => by rw [h], fun h => ByteArray.ext h⟩
theorem neqS_dec {a b : ByteArray} (h : decide (a.data = b.data) = false) : (a.toList != b.toList) = true := by
  show (!eqS a b) = true
  rw [eqS_dec, h]; rfl
theorem GoOn.len {toks : List Tg} {p : Nat} {ns : List Tg} {ss : List Lv} {b : Bool} {p' : Nat} {ns' : List Tg} {ss' : List Lv} (h : GoOn toks p ns ss b p' ns' ss') : ns.length ≤ ns'.length := by
  induction h with
  | pop _ _ _ _ _ ih => simp only [List.length_append] at ih; omega
  | _ => simp
theorem RS.topc {W0 w : World} {B : Nat} {A : Option Addr} {c : Nat} {toks : List Tg} {p : Nat} {ns : List Tg} {v : Value} {bs : List Lv} {lv : Lv} {g cap : Nat} (h : RS W0 w B A c toks p ns (bs ++ [lv]) v (.slice (some ⟨g, 0, none⟩) (bs.length + 1) cap)) :
    w.cell? ⟨g, bs.length * 4, none⟩ = some (.int .i64 lv.1.1) ∧ w.cell? ⟨g, bs.length * 4 + 1, none⟩ = some (.string lv.1.2.1) ∧ w.cell? ⟨g, bs.length * 4 + 2, none⟩ = some (.int .i64 lv.1.2.2) ∧ w.cell? ⟨g, bs.length * 4 + 3, none⟩ = some (.string lv.2) ∧
    w.frozen? ⟨g, bs.length * 4 + 3, none⟩ = false := by
  obtain ⟨g', cap', e, _, _, _, t0, t1, t2, t3, hf⟩ := h.top
  injection e with e1 e2 e3
  injection e1 with e1
  injection e1 with e1
  subst e1
  exact ⟨t0, t1, t2, t3, hf _⟩
theorem RS.top1 {W0 w : World} {B : Nat} {A : Option Addr} {c : Nat} {toks : List Tg} {p : Nat} {ns : List Tg} {v : Value} {lv : Lv} {g cap : Nat} (h : RS W0 w B A c toks p ns [lv] v (.slice (some ⟨g, 0, none⟩) 1 cap)) :
    w.cell? ⟨g, 0, none⟩ = some (.int .i64 lv.1.1) ∧ w.cell? ⟨g, 1, none⟩ = some (.string lv.1.2.1) ∧ w.cell? ⟨g, 2, none⟩ = some (.int .i64 lv.1.2.2) ∧ w.cell? ⟨g, 3, none⟩ = some (.string lv.2) ∧
    w.frozen? ⟨g, 3, none⟩ = false := RS.topc (bs := []) h
def stkLen (w : World) (B : Nat) : Nat := match w.cell? ⟨B, 3, none⟩ with
  | some (.slice _ n _) => n
  | _ => 0
set_option maxRecDepth 100000 in
set_option maxHeartbeats 8000000 in
theorem goOn_any (W0 w : World) (B : Nat) (A : Option Addr) (c : Nat) (toks : List Tg) (p : Nat) (ns : List Tg) (ss : List Lv) (v u : Value) (b : Bool) (p' : Nat) (ns' : List Tg) (ss' : List Lv) (h : RS W0 w B A c toks p ns ss v u) (hG : GoOn toks p ns ss b p' ns' ss')
    (hl : toks.length ≤ 100000) (hn : ns'.length ≤ 100000) (hss : ss.length ≤ 1000) :
    Calls Tryd.prog 25 #[.pointer (some ⟨B, 0, none⟩)] w fun e w' => e = .returned (.tuple #[.bool b, .int .i64 0]) ∧ ∃ v' u', RS W0 w' B A c toks p' ns' ss' v' u' := by
  have H := Lib.hid h
  have HG := Lib.hid hG
  have HN := Lib.hid hn
  clear h hG hn
  go_enter Tryd.func25, Tryd.ntmps25
  go_wp2_with fail
  go_loopw [4] (fun _ wr => ∃ (q : Nat) (ms : List Tg) (rs : List Lv) (v u : Value), rs.length ≤ 1000 ∧ Hid (RS W0 wr B A c toks q ms rs v u) ∧ Hid (GoOn toks q ms rs b p' ns' ss')) (fun _ wr => stkLen wr B)
  case atStart => exact ⟨p, ns, ss, v, u, hss, H, HG⟩
  case round =>
    clear H HG
    obtain ⟨q, ms, rs, v, u, hrs, H, HG⟩ := hrel
    have hmn := Nat.le_trans HG.out.len HN.out
    have CJ := Lib.hid (fun (s : ByteArray) (W : World) (hs : SgnOk s) (h : RS W0 W B A c toks q ms rs v u) => join_any W0 W B A c toks q ms rs v u s h hs (by omega))
    have CS := Lib.hid (fun (x : ByteArray) (W : World) (ns : List Tg) (v : Value) (h : RS W0 W B A c toks q ns rs v u) => isSign_any W0 W B A c toks q ns rs v u x h)
    obtain ⟨y0, y1, y2, y3⟩ := H.out.cells
    have hgo := HG.out
    cases hgo with
    | @bar _ _ bs t s hs hp h =>
      have HSG := Lib.hid (fun y => isSg_at hp h y)
      have hs2 := hs
      replace hs : SgnOk s := by unfold SgnOk; rcases hs2 with e | e; exact .inl e; exact .inr (.inl e)
      obtain ⟨ad, hA, _, _, _, _⟩ := tok_at H.out.tk hp
      subst hA
      have HTK : Hid (∀ (W : World) (ns : List Tg) (rs : List Lv) (v u : Value), RS W0 W B (some ad) c toks q ns rs v u → W.cell? ⟨(ad.add (q * 3)).block, (ad.add (q * 3)).off + 1, none⟩ = some (.string ⟨#[124]⟩)) := fun W ns rs v u hW => by
        obtain ⟨ad', e, _, _, k1, _⟩ := tok_at hW.tk hp
        injection e with e
        subst e
        rwa [h.2] at k1
      have hsn : (s.toList == [38]) = false := by rcases hs2 with e | e <;> subst e <;> rw [ByteArray.toList_eq] <;> rfl
      have hq3 : q < toks.length := hp
      obtain ⟨g, cap, rfl, hcap, hgB, hgl, _⟩ := H.out.top
      obtain ⟨t0, t1, t2, t3, t4⟩ := H.out.topc
      have hlen : (bs ++ [(t, s)]).length = bs.length + 1 := by simp
      have hbl2 : bs.length ≤ 1000 := by rw [hlen] at hrs; omega
      have e1 : ((bs.length + 1 : Nat) : Int) - 1 = (bs.length : Int) := by omega
      have CJ1 : Hid (∀ W : World, RS W0 W B (some ad) c toks q ms (bs ++ [(t, s)]) v (.slice (some ⟨g, 0, none⟩) (bs.length + 1) cap) → Calls Tryd.prog 53 #[.pointer (some ⟨B, 0, none⟩), .string s] W fun e w' => e = .returned (.tuple #[]) ∧ ∃ v', RS W0 w' B (some ad) c toks q (ms ++ joinN s) (bs ++ [(t, s)]) v' (.slice (some ⟨g, 0, none⟩) (bs.length + 1) cap)) := fun W h => CJ.out s W hs h
      have CS0 : Hid (∀ (W : World) (v : Value), RS W0 W B (some ad) c toks q (ms ++ joinN s) (bs ++ [(t, s)]) v (.slice (some ⟨g, 0, none⟩) (bs.length + 1) cap) → Calls Tryd.prog 47 #[.pointer (some ⟨B, 0, none⟩), .string ⟨#[124]⟩] W fun e w' => e = .returned (.bool true) ∧ Q W w') := fun W v h => by
        have := CS.out ⟨#[124]⟩ W (ms ++ joinN s) v h
        rwa [HSG.out ⟨#[124]⟩, show eqS ⟨#[124]⟩ ⟨#[124]⟩ = true from by rw [eqS_dec]; decide] at this
      have hjl : (ms ++ joinN s).length ≤ 100001 := by
        have : (joinN s).length ≤ 1 := by unfold joinN; split; exact Nat.le_refl _; split; exact Nat.le_refl _; exact Nat.zero_le _
        simp only [List.length_append]; omega
      clear CJ CS hlen
      go_wp2_with fail
      go_quiet (fail)
      have H1 := Lib.hid (H.out.more ((Q.refl wr).drewN nq))
      generalize wr.drewN nq = w1 at *
      obtain ⟨y0, y1, y2, y3⟩ := H1.out.cells
      obtain ⟨t0, t1, t2, t3, t4⟩ := H1.out.topc
      go_wp2_with (first
        | (go_at_call 53; refine (CJ1.out _ H1.out).mono ?_; rintro e w2 ⟨rfl, v2, hJ⟩; have HJ := Lib.hid hJ; obtain ⟨y0, y1, y2, y3⟩ := hJ.cells; obtain ⟨t0, t1, t2, t3, t4⟩ := hJ.topc; clear hJ)
        | (go_at_call 47; (with_reducible refine (CS0.out _ _ HJ.out).mono ?_); rintro e x0 ⟨rfl, z0⟩; have HS0 := Lib.hid (HJ.out.more z0); obtain ⟨y0, y1, y2, y3⟩ := HS0.out.cells; obtain ⟨t0, t1, t2, t3, t4⟩ := HS0.out.topc; clear z0)
        | fail)
      have k1 := HTK.out _ _ _ _ _ HS0.out
      have HL : Hid (RS W0 (x0.setCell ⟨g, bs.length * 4 + 3, none⟩ (.string ⟨#[124]⟩)) B (some ad) c toks q (ms ++ joinN s) (bs ++ [(t, ⟨#[124]⟩)]) v2 (.slice (some ⟨g, 0, none⟩) (bs.length + 1) cap)) := HS0.out.setLevel (k := 3) (x := .string ⟨#[124]⟩) (lv' := (t, ⟨#[124]⟩)) rfl (by omega)
      go_region
      obtain ⟨y0, y1, y2, y3⟩ := HL.out.cells
      obtain ⟨f1, f2, f3⟩ := HL.out.thaw
      have HF := Lib.hid ((HL.out.more (Q.refl _).drew).setAt (q + 1))
      clear HL
      generalize x0.setCell ⟨g, bs.length * 4 + 3, none⟩ (.string ⟨#[124]⟩) = W5 at *
      go_wp2_with fail
      go_ret2
      exact ⟨rfl, _, _, HF.out⟩
    | @amp _ _ bs t s hs hp h =>
      have HSG := Lib.hid (fun y => isSg_at hp h y)
      have hs2 := hs
      replace hs : SgnOk s := by unfold SgnOk; rcases hs2 with e | e; exact .inl e; exact .inr (.inr e)
      obtain ⟨ad, hA, _, _, _, _⟩ := tok_at H.out.tk hp
      subst hA
      have HTK : Hid (∀ (W : World) (ns : List Tg) (rs : List Lv) (v u : Value), RS W0 W B (some ad) c toks q ns rs v u → W.cell? ⟨(ad.add (q * 3)).block, (ad.add (q * 3)).off + 1, none⟩ = some (.string ⟨#[38]⟩)) := fun W ns rs v u hW => by
        obtain ⟨ad', e, _, _, k1, _⟩ := tok_at hW.tk hp
        injection e with e
        subst e
        rwa [h.2] at k1
      have hsn : (s.toList == [124]) = false := by rcases hs2 with e | e <;> subst e <;> rw [ByteArray.toList_eq] <;> rfl
      have hq3 : q < toks.length := hp
      obtain ⟨g, cap, rfl, hcap, hgB, hgl, _⟩ := H.out.top
      obtain ⟨t0, t1, t2, t3, t4⟩ := H.out.topc
      have hlen : (bs ++ [(t, s)]).length = bs.length + 1 := by simp
      have hbl2 : bs.length ≤ 1000 := by rw [hlen] at hrs; omega
      have e1 : ((bs.length + 1 : Nat) : Int) - 1 = (bs.length : Int) := by omega
      have CJ1 : Hid (∀ W : World, RS W0 W B (some ad) c toks q ms (bs ++ [(t, s)]) v (.slice (some ⟨g, 0, none⟩) (bs.length + 1) cap) → Calls Tryd.prog 53 #[.pointer (some ⟨B, 0, none⟩), .string s] W fun e w' => e = .returned (.tuple #[]) ∧ ∃ v', RS W0 w' B (some ad) c toks q (ms ++ joinN s) (bs ++ [(t, s)]) v' (.slice (some ⟨g, 0, none⟩) (bs.length + 1) cap)) := fun W h => CJ.out s W hs h
      have CS0 : Hid (∀ (W : World) (v : Value), RS W0 W B (some ad) c toks q (ms ++ joinN s) (bs ++ [(t, s)]) v (.slice (some ⟨g, 0, none⟩) (bs.length + 1) cap) → Calls Tryd.prog 47 #[.pointer (some ⟨B, 0, none⟩), .string ⟨#[124]⟩] W fun e w' => e = .returned (.bool false) ∧ Q W w') := fun W v h => by
        have := CS.out ⟨#[124]⟩ W (ms ++ joinN s) v h
        rwa [HSG.out ⟨#[124]⟩, show eqS ⟨#[38]⟩ ⟨#[124]⟩ = false from by rw [eqS_dec]; decide] at this
      have CS1 : Hid (∀ (W : World) (v : Value), RS W0 W B (some ad) c toks q (ms ++ joinN s) (bs ++ [(t, s)]) v (.slice (some ⟨g, 0, none⟩) (bs.length + 1) cap) → Calls Tryd.prog 47 #[.pointer (some ⟨B, 0, none⟩), .string ⟨#[38]⟩] W fun e w' => e = .returned (.bool true) ∧ Q W w') := fun W v h => by
        have := CS.out ⟨#[38]⟩ W (ms ++ joinN s) v h
        rwa [HSG.out ⟨#[38]⟩, show eqS ⟨#[38]⟩ ⟨#[38]⟩ = true from by rw [eqS_dec]; decide] at this
      have hjl : (ms ++ joinN s).length ≤ 100001 := by
        have : (joinN s).length ≤ 1 := by unfold joinN; split; exact Nat.le_refl _; split; exact Nat.le_refl _; exact Nat.zero_le _
        simp only [List.length_append]; omega
      clear CJ CS hlen
      go_wp2_with fail
      go_quiet (fail)
      have H1 := Lib.hid (H.out.more ((Q.refl wr).drewN nq))
      generalize wr.drewN nq = w1 at *
      obtain ⟨y0, y1, y2, y3⟩ := H1.out.cells
      obtain ⟨t0, t1, t2, t3, t4⟩ := H1.out.topc
      go_wp2_with (first
        | (go_at_call 53; refine (CJ1.out _ H1.out).mono ?_; rintro e w2 ⟨rfl, v2, hJ⟩; have HJ := Lib.hid hJ; obtain ⟨y0, y1, y2, y3⟩ := hJ.cells; obtain ⟨t0, t1, t2, t3, t4⟩ := hJ.topc; clear hJ)
        | (go_at_call 47; (with_reducible refine (CS0.out _ _ HJ.out).mono ?_); rintro e x0 ⟨rfl, z0⟩; have HS0 := Lib.hid (HJ.out.more z0); obtain ⟨y0, y1, y2, y3⟩ := HS0.out.cells; obtain ⟨t0, t1, t2, t3, t4⟩ := HS0.out.topc; clear z0)
        | (go_at_call 47; (with_reducible refine (CS1.out _ _ HS0.out).mono ?_); rintro e x1 ⟨rfl, z1⟩; have HS1 := Lib.hid (HS0.out.more z1); obtain ⟨y0, y1, y2, y3⟩ := HS1.out.cells; obtain ⟨t0, t1, t2, t3, t4⟩ := HS1.out.topc; clear z1)
        | fail)
      have k1 := HTK.out _ _ _ _ _ HS1.out
      have HL : Hid (RS W0 (x1.setCell ⟨g, bs.length * 4 + 3, none⟩ (.string ⟨#[38]⟩)) B (some ad) c toks q (ms ++ joinN s) (bs ++ [(t, ⟨#[38]⟩)]) v2 (.slice (some ⟨g, 0, none⟩) (bs.length + 1) cap)) := HS1.out.setLevel (k := 3) (x := .string ⟨#[38]⟩) (lv' := (t, ⟨#[38]⟩)) rfl (by omega)
      go_region
      obtain ⟨y0, y1, y2, y3⟩ := HL.out.cells
      obtain ⟨f1, f2, f3⟩ := HL.out.thaw
      have HF := Lib.hid ((HL.out.more (Q.refl _).drew).setAt (q + 1))
      clear HL
      generalize x1.setCell ⟨g, bs.length * 4 + 3, none⟩ (.string ⟨#[38]⟩) = W5 at *
      go_wp2_with fail
      go_ret2
      exact ⟨rfl, _, _, HF.out⟩
    | @stop _ _ t s hs hp =>
      have HSG := Lib.hid (fun y => isSg_end hp y)
      obtain ⟨g, cap, rfl, hcap, hgB, hgl, _⟩ := RS.top (bs := []) H.out
      obtain ⟨t0, t1, t2, t3, t4⟩ := RS.top1 H.out
      have e1 : ((1 : Nat) : Int) - 1 = 0 := by omega
      have CJ1 : Hid (∀ W : World, RS W0 W B A c toks p' ms ([(t, s)]) v (.slice (some ⟨g, 0, none⟩) (1) cap) → Calls Tryd.prog 53 #[.pointer (some ⟨B, 0, none⟩), .string s] W fun e w' => e = .returned (.tuple #[]) ∧ ∃ v', RS W0 w' B A c toks p' (ms ++ joinN s) ([(t, s)]) v' (.slice (some ⟨g, 0, none⟩) (1) cap)) := fun W h => CJ.out s W hs h
      have CS0 : Hid (∀ (W : World) (v : Value), RS W0 W B A c toks p' (ms ++ joinN s) ([(t, s)]) v (.slice (some ⟨g, 0, none⟩) (1) cap) → Calls Tryd.prog 47 #[.pointer (some ⟨B, 0, none⟩), .string ⟨#[124]⟩] W fun e w' => e = .returned (.bool false) ∧ Q W w') := fun W v h => by
        have := CS.out ⟨#[124]⟩ W (ms ++ joinN s) v h
        rwa [HSG.out ⟨#[124]⟩, show false = false from rfl] at this
      have CS1 : Hid (∀ (W : World) (v : Value), RS W0 W B A c toks p' (ms ++ joinN s) ([(t, s)]) v (.slice (some ⟨g, 0, none⟩) (1) cap) → Calls Tryd.prog 47 #[.pointer (some ⟨B, 0, none⟩), .string ⟨#[38]⟩] W fun e w' => e = .returned (.bool false) ∧ Q W w') := fun W v h => by
        have := CS.out ⟨#[38]⟩ W (ms ++ joinN s) v h
        rwa [HSG.out ⟨#[38]⟩, show false = false from rfl] at this
      have hjl : (ms ++ joinN s).length ≤ 100001 := by
        have : (joinN s).length ≤ 1 := by unfold joinN; split; exact Nat.le_refl _; split; exact Nat.le_refl _; exact Nat.zero_le _
        simp only [List.length_append]; omega
      clear CJ CS
      go_wp2_with fail
      go_quiet (fail)
      have H1 := Lib.hid (H.out.more ((Q.refl wr).drewN nq))
      generalize wr.drewN nq = w1 at *
      obtain ⟨y0, y1, y2, y3⟩ := H1.out.cells
      obtain ⟨t0, t1, t2, t3, t4⟩ := RS.top1 H1.out
      go_wp2_with (first
        | (go_at_call 53; refine (CJ1.out _ H1.out).mono ?_; rintro e w2 ⟨rfl, v2, hJ⟩; have HJ := Lib.hid hJ; obtain ⟨y0, y1, y2, y3⟩ := hJ.cells; obtain ⟨t0, t1, t2, t3, t4⟩ := RS.top1 hJ; clear hJ)
        | (go_at_call 47; (with_reducible refine (CS0.out _ _ HJ.out).mono ?_); rintro e x0 ⟨rfl, z0⟩; have HS0 := Lib.hid (HJ.out.more z0); obtain ⟨y0, y1, y2, y3⟩ := HS0.out.cells; obtain ⟨t0, t1, t2, t3, t4⟩ := RS.top1 HS0.out; clear z0)
        | (go_at_call 47; (with_reducible refine (CS1.out _ _ HS0.out).mono ?_); rintro e x1 ⟨rfl, z1⟩; have HS1 := Lib.hid (HS0.out.more z1); obtain ⟨y0, y1, y2, y3⟩ := HS1.out.cells; obtain ⟨t0, t1, t2, t3, t4⟩ := RS.top1 HS1.out; clear z1)
        | fail)
      go_ret2
      exact ⟨rfl, _, _, HS1.out⟩
    | @comma _ _ bs nm s m hs hb hm hp h =>
      have HSG := Lib.hid (fun y => isSg_at hp h y)
      have hbl : (((bs.length + 1 : Nat) : Int) == 1) = false := beq_eq_false_iff_ne.2 (by omega)
      have CX := Lib.hid (fun (W : World) (v : Value) (g cap : Nat) (h : RS W0 W B A c toks q (ms ++ joinN s) (bs ++ [((3, nm, (m : Int)), s)]) v (.slice (some ⟨g, 0, none⟩) (bs.length + 1) cap)) => next_any W0 W B A c toks q (ms ++ joinN s) bs nm s m v g cap h hm (by omega))
      obtain ⟨g, cap, rfl, hcap, hgB, hgl, _⟩ := H.out.top
      obtain ⟨t0, t1, t2, t3, t4⟩ := H.out.topc
      have hlen : (bs ++ [((3, nm, (m : Int)), s)]).length = bs.length + 1 := by simp
      have hbl2 : bs.length ≤ 1000 := by rw [hlen] at hrs; omega
      have e1 : ((bs.length + 1 : Nat) : Int) - 1 = (bs.length : Int) := by omega
      have CJ1 : Hid (∀ W : World, RS W0 W B A c toks q ms (bs ++ [((3, nm, (m : Int)), s)]) v (.slice (some ⟨g, 0, none⟩) (bs.length + 1) cap) → Calls Tryd.prog 53 #[.pointer (some ⟨B, 0, none⟩), .string s] W fun e w' => e = .returned (.tuple #[]) ∧ ∃ v', RS W0 w' B A c toks q (ms ++ joinN s) (bs ++ [((3, nm, (m : Int)), s)]) v' (.slice (some ⟨g, 0, none⟩) (bs.length + 1) cap)) := fun W h => CJ.out s W hs h
      have CS0 : Hid (∀ (W : World) (v : Value), RS W0 W B A c toks q (ms ++ joinN s) (bs ++ [((3, nm, (m : Int)), s)]) v (.slice (some ⟨g, 0, none⟩) (bs.length + 1) cap) → Calls Tryd.prog 47 #[.pointer (some ⟨B, 0, none⟩), .string ⟨#[124]⟩] W fun e w' => e = .returned (.bool false) ∧ Q W w') := fun W v h => by
        have := CS.out ⟨#[124]⟩ W (ms ++ joinN s) v h
        rwa [HSG.out ⟨#[124]⟩, show eqS ⟨#[44]⟩ ⟨#[124]⟩ = false from by rw [eqS_dec]; decide] at this
      have CS1 : Hid (∀ (W : World) (v : Value), RS W0 W B A c toks q (ms ++ joinN s) (bs ++ [((3, nm, (m : Int)), s)]) v (.slice (some ⟨g, 0, none⟩) (bs.length + 1) cap) → Calls Tryd.prog 47 #[.pointer (some ⟨B, 0, none⟩), .string ⟨#[38]⟩] W fun e w' => e = .returned (.bool false) ∧ Q W w') := fun W v h => by
        have := CS.out ⟨#[38]⟩ W (ms ++ joinN s) v h
        rwa [HSG.out ⟨#[38]⟩, show eqS ⟨#[44]⟩ ⟨#[38]⟩ = false from by rw [eqS_dec]; decide] at this
      have CS2 : Hid (∀ (W : World) (v : Value), RS W0 W B A c toks q (ms ++ joinN s) (bs ++ [((3, nm, (m : Int)), s)]) v (.slice (some ⟨g, 0, none⟩) (bs.length + 1) cap) → Calls Tryd.prog 47 #[.pointer (some ⟨B, 0, none⟩), .string ⟨#[44]⟩] W fun e w' => e = .returned (.bool true) ∧ Q W w') := fun W v h => by
        have := CS.out ⟨#[44]⟩ W (ms ++ joinN s) v h
        rwa [HSG.out ⟨#[44]⟩, show eqS ⟨#[44]⟩ ⟨#[44]⟩ = true from by rw [eqS_dec]; decide] at this
      have hjl : (ms ++ joinN s).length ≤ 100001 := by
        have : (joinN s).length ≤ 1 := by unfold joinN; split; exact Nat.le_refl _; split; exact Nat.le_refl _; exact Nat.zero_le _
        simp only [List.length_append]; omega
      clear CJ CS hlen
      go_wp2_with fail
      go_quiet (fail)
      have H1 := Lib.hid (H.out.more ((Q.refl wr).drewN nq))
      generalize wr.drewN nq = w1 at *
      obtain ⟨y0, y1, y2, y3⟩ := H1.out.cells
      obtain ⟨t0, t1, t2, t3, t4⟩ := H1.out.topc
      go_wp2_with (first
        | (go_at_call 53; refine (CJ1.out _ H1.out).mono ?_; rintro e w2 ⟨rfl, v2, hJ⟩; have HJ := Lib.hid hJ; obtain ⟨y0, y1, y2, y3⟩ := hJ.cells; obtain ⟨t0, t1, t2, t3, t4⟩ := hJ.topc; clear hJ)
        | (go_at_call 47; (with_reducible refine (CS0.out _ _ HJ.out).mono ?_); rintro e x0 ⟨rfl, z0⟩; have HS0 := Lib.hid (HJ.out.more z0); obtain ⟨y0, y1, y2, y3⟩ := HS0.out.cells; obtain ⟨t0, t1, t2, t3, t4⟩ := HS0.out.topc; clear z0)
        | (go_at_call 47; (with_reducible refine (CS1.out _ _ HS0.out).mono ?_); rintro e x1 ⟨rfl, z1⟩; have HS1 := Lib.hid (HS0.out.more z1); obtain ⟨y0, y1, y2, y3⟩ := HS1.out.cells; obtain ⟨t0, t1, t2, t3, t4⟩ := HS1.out.topc; clear z1)
        | (go_at_call 47; (with_reducible refine (CS2.out _ _ HS1.out).mono ?_); rintro e x2 ⟨rfl, z2⟩; have HS2 := Lib.hid (HS1.out.more z2); obtain ⟨y0, y1, y2, y3⟩ := HS2.out.cells; obtain ⟨t0, t1, t2, t3, t4⟩ := HS2.out.topc; clear z2)
        | (go_at_call 54; refine (CX.out _ _ _ _ HS2.out).mono ?_; rintro e w6 ⟨rfl, hX⟩))
      go_ret2
      exact ⟨rfl, _, _, hX⟩
    | @pop _ _ bs t s _ _ _ _ hs hb hp h hg =>
      have HSG := Lib.hid (fun y => isSg_at hp h y)
      have hbl : (((bs.length + 1 : Nat) : Int) == 1) = false := beq_eq_false_iff_ne.2 (by omega)
      have hqt : q < toks.length := hp
      have hbl3 : bs.length ≤ 1000 := by have : (bs ++ [(t, s)]).length = bs.length + 1 := by simp
                                         omega
      have CE : Hid (∀ (W : World) (v u : Value), RS W0 W B A c toks q (ms ++ joinN s) (bs ++ [(t, s)]) v u → Calls Tryd.prog 55 #[.pointer (some ⟨B, 0, none⟩), .agg #[.int .i64 t.1, .string t.2.1, .int .i64 t.2.2]] W fun e w' => e = .returned (.tuple #[]) ∧ ∃ v' u', RS W0 w' B A c toks (q + 1) (ms ++ joinN s ++ endN t) bs v' u') := fun W v u h => by
        have hjl : (ms ++ joinN s).length ≤ 100001 := by
          have : (joinN s).length ≤ 1 := by unfold joinN; split; exact Nat.le_refl _; split; exact Nat.le_refl _; exact Nat.zero_le _
          simp only [List.length_append]; omega
        by_cases h36 : t.1 = 3 ∨ t.1 = 6
        · rw [show endN t = [t] by unfold endN; rw [if_pos h36]]
          exact end_some W0 W B A c toks q (ms ++ joinN s) bs (t, s) v u t h h36 (by omega) (by omega) (by omega)
        · rw [show endN t = [] by unfold endN; rw [if_neg h36], List.append_nil]
          refine (end_none W0 W B A c toks q (ms ++ joinN s) bs (t, s) v u t h (fun e => h36 (.inl e)) (fun e => h36 (.inr e)) (by omega) (by omega)).mono ?_
          rintro e w' ⟨rfl, u', h⟩
          exact ⟨rfl, _, u', h⟩
      obtain ⟨g, cap, rfl, hcap, hgB, hgl, _⟩ := H.out.top
      obtain ⟨t0, t1, t2, t3, t4⟩ := H.out.topc
      have hlen : (bs ++ [(t, s)]).length = bs.length + 1 := by simp
      have hbl2 : bs.length ≤ 1000 := by rw [hlen] at hrs; omega
      have e1 : ((bs.length + 1 : Nat) : Int) - 1 = (bs.length : Int) := by omega
      have CJ1 : Hid (∀ W : World, RS W0 W B A c toks q ms (bs ++ [(t, s)]) v (.slice (some ⟨g, 0, none⟩) (bs.length + 1) cap) → Calls Tryd.prog 53 #[.pointer (some ⟨B, 0, none⟩), .string s] W fun e w' => e = .returned (.tuple #[]) ∧ ∃ v', RS W0 w' B A c toks q (ms ++ joinN s) (bs ++ [(t, s)]) v' (.slice (some ⟨g, 0, none⟩) (bs.length + 1) cap)) := fun W h => CJ.out s W hs h
      have CS0 : Hid (∀ (W : World) (v : Value), RS W0 W B A c toks q (ms ++ joinN s) (bs ++ [(t, s)]) v (.slice (some ⟨g, 0, none⟩) (bs.length + 1) cap) → Calls Tryd.prog 47 #[.pointer (some ⟨B, 0, none⟩), .string ⟨#[124]⟩] W fun e w' => e = .returned (.bool false) ∧ Q W w') := fun W v h => by
        have := CS.out ⟨#[124]⟩ W (ms ++ joinN s) v h
        rwa [HSG.out ⟨#[124]⟩, show eqS ⟨#[41]⟩ ⟨#[124]⟩ = false from by rw [eqS_dec]; decide] at this
      have CS1 : Hid (∀ (W : World) (v : Value), RS W0 W B A c toks q (ms ++ joinN s) (bs ++ [(t, s)]) v (.slice (some ⟨g, 0, none⟩) (bs.length + 1) cap) → Calls Tryd.prog 47 #[.pointer (some ⟨B, 0, none⟩), .string ⟨#[38]⟩] W fun e w' => e = .returned (.bool false) ∧ Q W w') := fun W v h => by
        have := CS.out ⟨#[38]⟩ W (ms ++ joinN s) v h
        rwa [HSG.out ⟨#[38]⟩, show eqS ⟨#[41]⟩ ⟨#[38]⟩ = false from by rw [eqS_dec]; decide] at this
      have CS2 : Hid (∀ (W : World) (v : Value), RS W0 W B A c toks q (ms ++ joinN s) (bs ++ [(t, s)]) v (.slice (some ⟨g, 0, none⟩) (bs.length + 1) cap) → Calls Tryd.prog 47 #[.pointer (some ⟨B, 0, none⟩), .string ⟨#[44]⟩] W fun e w' => e = .returned (.bool false) ∧ Q W w') := fun W v h => by
        have := CS.out ⟨#[44]⟩ W (ms ++ joinN s) v h
        rwa [HSG.out ⟨#[44]⟩, show eqS ⟨#[41]⟩ ⟨#[44]⟩ = false from by rw [eqS_dec]; decide] at this
      have CS3 : Hid (∀ (W : World) (v : Value), RS W0 W B A c toks q (ms ++ joinN s) (bs ++ [(t, s)]) v (.slice (some ⟨g, 0, none⟩) (bs.length + 1) cap) → Calls Tryd.prog 47 #[.pointer (some ⟨B, 0, none⟩), .string ⟨#[41]⟩] W fun e w' => e = .returned (.bool true) ∧ Q W w') := fun W v h => by
        have := CS.out ⟨#[41]⟩ W (ms ++ joinN s) v h
        rwa [HSG.out ⟨#[41]⟩, show eqS ⟨#[41]⟩ ⟨#[41]⟩ = true from by rw [eqS_dec]; decide] at this
      have hjl : (ms ++ joinN s).length ≤ 100001 := by
        have : (joinN s).length ≤ 1 := by unfold joinN; split; exact Nat.le_refl _; split; exact Nat.le_refl _; exact Nat.zero_le _
        simp only [List.length_append]; omega
      clear CJ CS hlen
      go_wp2_with fail
      go_quiet (fail)
      have H1 := Lib.hid (H.out.more ((Q.refl wr).drewN nq))
      generalize wr.drewN nq = w1 at *
      obtain ⟨y0, y1, y2, y3⟩ := H1.out.cells
      obtain ⟨t0, t1, t2, t3, t4⟩ := H1.out.topc
      go_wp2_with (first
        | (go_at_call 53; refine (CJ1.out _ H1.out).mono ?_; rintro e w2 ⟨rfl, v2, hJ⟩; have HJ := Lib.hid hJ; obtain ⟨y0, y1, y2, y3⟩ := hJ.cells; obtain ⟨t0, t1, t2, t3, t4⟩ := hJ.topc; clear hJ)
        | (go_at_call 47; (with_reducible refine (CS0.out _ _ HJ.out).mono ?_); rintro e x0 ⟨rfl, z0⟩; have HS0 := Lib.hid (HJ.out.more z0); obtain ⟨y0, y1, y2, y3⟩ := HS0.out.cells; obtain ⟨t0, t1, t2, t3, t4⟩ := HS0.out.topc; clear z0)
        | (go_at_call 47; (with_reducible refine (CS1.out _ _ HS0.out).mono ?_); rintro e x1 ⟨rfl, z1⟩; have HS1 := Lib.hid (HS0.out.more z1); obtain ⟨y0, y1, y2, y3⟩ := HS1.out.cells; obtain ⟨t0, t1, t2, t3, t4⟩ := HS1.out.topc; clear z1)
        | (go_at_call 47; (with_reducible refine (CS2.out _ _ HS1.out).mono ?_); rintro e x2 ⟨rfl, z2⟩; have HS2 := Lib.hid (HS1.out.more z2); obtain ⟨y0, y1, y2, y3⟩ := HS2.out.cells; obtain ⟨t0, t1, t2, t3, t4⟩ := HS2.out.topc; clear z2)
        | (go_at_call 47; (with_reducible refine (CS3.out _ _ HS2.out).mono ?_); rintro e x3 ⟨rfl, z3⟩; have HS3 := Lib.hid (HS2.out.more z3); obtain ⟨y0, y1, y2, y3⟩ := HS3.out.cells; obtain ⟨t0, t1, t2, t3, t4⟩ := HS3.out.topc; clear z3)
        | (go_at_call 55; refine (CE.out _ _ _ HS3.out).mono ?_; rintro e w7 ⟨rfl, v7, u7, hE⟩; have HE := Lib.hid hE; clear hE))
      go_roundw
      case rel => exact ⟨q + 1, _, bs, v7, u7, hbl2, HE, Lib.hid hg⟩
      case measure =>
        have a1 : stkLen w7 B = bs.length := by
          unfold stkLen
          rw [HE.out.cells.2.2.2]
          obtain ⟨g7, cap7, e7⟩ := own_slice HE.out.stk hb
          rw [e7]
        have a2 : stkLen wr B = bs.length + 1 := by
          unfold stkLen
          rw [H.out.cells.2.2.2]
        rw [a1, a2]
        exact Nat.lt_succ_self _
end Go.Proofs.YtmbdbmjnibfmgaaDoor.Ex
