/-
  Contract of term.Right on stores.
-/
import Derived.Test.YtgnbempkobgeiaaTermY
namespace Go.Proofs.Ytgnbempkobgeiaa.Tm
open Go.RowKit Kit Hs

theorem may_wf {l : List Sg.Sig} {n : Nat} {t : Tm} (h : mayB l n t = true) : Wf t.k := by
  unfold mayB at h
  simp only [Bool.and_eq_true] at h
  obtain ⟨⟨_, h⟩, _⟩ := h
  unfold hasB at h
  split at h
  · unfold Wf; omega
  · simp only [Bool.and_eq_true, isKindB, Bool.or_eq_true, beq_iff_eq] at h
    unfold Wf; omega
theorem keyOk_parts {l : List Sg.Sig} {key : List Int} {i : Nat} (h : keyOk l key i = true) : 3 ≤ key.length ∧ mayB l i (ofKey key) = true ∧ (i < 2 → (ofKey key).k = (i : Int)) := by
  unfold keyOk at h
  simp only [Bool.and_eq_true, decide_eq_true_eq, Bool.not_eq_true', Bool.and_eq_false_iff, decide_eq_false_iff_not, bne_eq_false_iff_eq] at h
  obtain ⟨⟨h1, h2⟩, h3⟩ := h
  exact ⟨h1, h2, fun hi => h3.resolve_left (by omega)⟩
theorem key_of {key : List Int} (h : 3 ≤ key.length) : (ofKey key).key = key := by
  rw [ofKey_at h]
  match key, h with
  | a :: b :: c :: r, _ => rfl
theorem ofKey_key (t : Tm) : ofKey t.key = t := by
  obtain ⟨k, s, p, xs⟩ := t
  rfl
theorem Store.head {l : List Sg.Sig} {ks : List (List Int)} (h : Store l ks) {i : Nat} (hi : i < 2) : ks[i]? = some [(i : Int), 0, 0] := by
  have hlt : i < ks.length := by have := h.two; omega
  have hk := h.ok i _ (List.getElem?_eq_getElem hlt)
  obtain ⟨h3, hm, hk2⟩ := keyOk_parts hk
  have hkk := hk2 hi
  rw [List.getElem?_eq_getElem hlt, ← key_of h3]
  obtain ⟨t, ht⟩ : ∃ t, ofKey ks[i] = t := ⟨_, rfl⟩
  rw [ht] at hkk hm ⊢
  unfold mayB at hm
  simp only [Bool.and_eq_true] at hm
  obtain ⟨⟨hst, hha⟩, _⟩ := hm
  unfold standB at hst
  rw [if_neg (by omega), if_neg (by omega), if_neg (by omega)] at hst
  unfold hasB at hha
  rw [if_neg (by omega)] at hha
  simp only [Bool.and_eq_true, beq_iff_eq] at hst hha
  have hx : t.xs.length = 0 := by
    have h2 := hha.2
    unfold partsN at h2
    rw [if_neg (by omega), if_neg (by omega), if_neg (by omega)] at h2
    omega
  have hx' := List.eq_nil_of_length_eq_zero hx
  simp [Tm.key, hkk, hst.1, hst.2, hx']
theorem Store.first {l : List Sg.Sig} {ks : List (List Int)} (h : Store l ks) : ks.take 2 = first3 := by
  apply List.ext_getElem?
  intro i
  by_cases hi : i < 2
  · rw [List.getElem?_take, if_pos hi, h.head hi]
    match i, hi with
    | 0, _ => rfl
    | 1, _ => rfl
  · rw [List.getElem?_take, if_neg hi]
    exact (List.getElem?_eq_none (by simp [first3]; omega)).symm
theorem _root_.Go.Proofs.Ytgnbempkobgeiaa.Hs.Keys.take {w : World} {B : Nat} {A : Option Addr} {ks : List (List Int)} (h : Keys w B A ks) (n : Nat) : Keys w B A (ks.take n) := fun h0 => by
  obtain ⟨ad, e, hb, hc⟩ := h (by rw [List.length_take] at h0; omega)
  refine ⟨ad, e, hb, fun i k hk => hc i k ?_⟩
  rw [List.getElem?_take] at hk
  split at hk
  · exact hk
  · cases hk
theorem slice_rows (A : Option Addr) (n c l : Nat) (h : l ≤ c) (u : World) : (Instr.slice 23 (.slice A n c) none (some (.int .i64 (l : Int))) none).run Try.prog u = .ok (.slice A l c) u := by
  obtain ⟨i0, hi, hz0, hz1, hz2⟩ := info_parts sliceInfo
  simp [Instr.slice, run_underlying Try.underlying23, Instr.sliceBounds, Instr.sliceBound, asIntOf, sizeOf, typeInfo, hi, h, Addr.add]

set_option maxRecDepth 100000 in
set_option maxHeartbeats 2000000 in
theorem right3_any (L A S : Option Addr) (nl cl n c m d : Nat) (l : List Sg.Sig) (ks : List (List Int)) (w : World) (hnl : nl = l.length) (hr : Sg.Row w w.heap.size L l) (hn : n = ks.length) (hm : m = sizeN ks.length) (hk : Keys w w.heap.size A ks) (hS : Ints w w.heap.size S (layI ks)) (hst : Store l ks)
    (hs : ∀ k ∈ ks, k.length ≤ 100000) (hl : ks.length ≤ 5000) (hcap : ks.length ≤ c) :
    Calls Try.prog 25 #[.slice L nl cl, .agg #[.slice A n c, .slice S m d]] w fun e w' => e = .returned (.bool true) ∧ Q w w' := by
  subst hnl
  subst hn
  have q0 := (Q.refl w).alloc (Obj.cells #[Value.slice A ks.length c, Value.slice S m d] 26)
  have Hr := Lib.hid ((hr.q (Nat.le_refl _) q0).more q0.size)
  have Hk := Lib.hid ((hk.q (Nat.le_refl _) q0).more q0.size)
  have HS := Lib.hid ((hS.q (Nat.le_refl _) q0).more q0.size)
  have HB := Lib.hid (BoxT.new w (Value.slice A ks.length c) (Value.slice S m d) 26)
  have HsM := Lib.hid hs
  have Hst := Lib.hid hst
  have Hm := Lib.hid hm
  have h2 := hst.two
  have d2 : decide ((ks.length : Int) < 2) = false := decide_eq_false (by omega)
  have hsl2 : ∀ u, (Instr.slice 23 (.slice A ks.length c) none (some (.int .i64 2)) none).run Try.prog u = .ok (.slice A 2 c) u := slice_rows A ks.length c 2 (by omega)
  clear hr hk hS hs hst hm
  go_enter Try.func25, Try.ntmps25
  go_wp2_with fail
  generalize w.alloc (Obj.cells #[Value.slice A ks.length c, Value.slice S m d] 26) = W0 at *
  refine (first_any _).mono ?_
  rintro e w1 ⟨A1, c1, rfl, hF, q1, _⟩
  have HF := Lib.hid hF
  have HB1 := Lib.hid (HB.out.q q1)
  have b0 := HB1.out.c0
  clear hF
  go_wp2_with fail
  have Hk1 := Lib.hid ((Hk.out.q (Nat.le_refl _) q1).more q1.size)
  refine (equalF_any _ _ _ _ _ _ first3 _ rfl rfl (by have := Hk1.out.take 2; rwa [Hst.out.first] at this) (HF.out w1 (fun _ _ _ => rfl)) (by simp [first3]) (by simp [first3])).mono ?_
  rintro e w2 ⟨rfl, q2⟩
  have q12 := q1.trans q2
  have HB2 := Lib.hid (HB1.out.q q2)
  have Hk2 := Lib.hid ((Hk1.out.q (Nat.le_refl _) q2).more q2.size)
  have Hr2 := Lib.hid ((Hr.out.q (Nat.le_refl _) q12).more q12.size)
  have HS2 := Lib.hid ((HS.out.q (Nat.le_refl _) q12).more q12.size)
  have q02 := q0.trans q12
  clear b0 hsl2 HF Hk1 Hk Hr HS HB HB1 q1 q2 q12
  have b0 := HB2.out.c0
  go_wp2_with fail
  go_loopw [6, 7, 8] (fun i _ _ wr => ∃ k : Nat, 2 ≤ k ∧ k ≤ ks.length ∧ i = .int .i64 k ∧ Q w2 wr) (fun i _ _ _ => ks.length - (intOf i).toNat)
  case atStart => exact ⟨2, Nat.le_refl _, by omega, rfl, Q.refl _⟩
  case round =>
    obtain ⟨k, hk2, hkl, rfl, qr⟩ := hrel
    clear b0
    have HBr := Lib.hid (HB2.out.q qr)
    have b0 := HBr.out.c0
    have b1 := HBr.out.c1
    by_cases hlt : k < ks.length
    · obtain ⟨h3, hM, _⟩ := keyOk_parts (Hst.out.ok k _ (List.getElem?_eq_getElem hlt))
      have HT := Lib.hid (termAt_at hlt h3)
      obtain ⟨t, ht⟩ : ∃ t, ofKey ks[k] = t := ⟨_, rfl⟩
      have Hl : Hid (t.xs.length ≤ maxLen) := by unfold Hid; rw [← ht]; have := HsM.out _ (List.getElem_mem hlt); simp [ofKey, maxLen]; omega
      rw [ht] at HT hM
      have HM := Lib.hid hM
      have Hkr := Lib.hid ((Hk2.out.q (Nat.le_refl _) qr).more qr.size)
      have hsl : ∀ u, (Instr.slice 23 (.slice A ks.length c) none (some (.int .i64 (k : Int))) none).run Try.prog u = .ok (.slice A k c) u := slice_rows A ks.length c k (by omega)
      clear ht h3 hM
      go_wp2_with fail
      refine (look_any _ _ _ _ _ _ ks k _ rfl Hkr.out).mono ?_
      rintro e w3 ⟨A3, n3, c3, rfl, hn3, hA3, q3⟩
      rw [HT.out] at hn3 hA3 ⊢
      simp only [Option.getD_some, Option.isSome_some] at hn3 hA3 ⊢
      have Hn3 := Lib.hid hn3
      have q4 := (Q.refl w3).alloc (Obj.cells #[.int .i64 t.k, .int .i64 t.s, .int .i64 t.p, .slice A3 n3 c3] 28)
      have HA4 := Lib.hid ((hA3.q (Nat.le_refl _) q4).more q4.size)
      have X := Box4.new w3 (.int .i64 t.k) (.int .i64 t.s) (.int .i64 t.p) (.slice A3 n3 c3) 28
      have qr4 := (qr.trans q3).trans q4
      have HX := Lib.hid X
      have HB4 := Lib.hid (HB2.out.q qr4)
      have Hr4 := Lib.hid ((Hr2.out.q (Nat.le_refl _) qr4).more qr4.size)
      clear hn3 hA3 X b0 b1
      go_wp2_with fail
      generalize w3.alloc (Obj.cells #[.int .i64 t.k, .int .i64 t.s, .int .i64 t.p, .slice A3 n3 c3] 28) = W4 at *
      have b0 := HB4.out.c0
      have x0 := HX.out.c0
      have x1 := HX.out.c1
      have x2 := HX.out.c2
      have x3 := HX.out.c3
      have hbl := HB4.out.lt
      have hxl := HX.out.lt
      go_region_held3 (fun w' => w'.cell? ⟨w.heap.size, 0, none⟩ = some (.slice A ks.length c) ∧ w'.cell? ⟨w3.heap.size, 0, none⟩ = some (.int .i64 t.k) ∧ w'.cell? ⟨w3.heap.size, 1, none⟩ = some (.int .i64 t.s) ∧ w'.cell? ⟨w3.heap.size, 2, none⟩ = some (.int .i64 t.p) ∧ w'.cell? ⟨w3.heap.size, 3, none⟩ = some (.slice A3 n3 c3))
        (first
          | go_keep
          | exact ⟨(p5.cell (p := ⟨w.heap.size, 0, none⟩) hbl).trans b0, (p5.cell (p := ⟨w3.heap.size, 0, none⟩) hxl).trans x0, (p5.cell (p := ⟨w3.heap.size, 1, none⟩) hxl).trans x1, (p5.cell (p := ⟨w3.heap.size, 2, none⟩) hxl).trans x2, (p5.cell (p := ⟨w3.heap.size, 3, none⟩) hxl).trans x3⟩)
        (first
          | (go_at_call 17; refine (may_any _ _ _ _ _ _ _ _ _ _ _ _ l t _ rfl (by exact Hr4.out) Hn3.out (by exact HA4.out) (may_wf HM.out) Hl.out).mono ?_; rintro e w5 ⟨rfl, q5⟩; rw [HM.out]; have p5 := (Q.refl W4).drew.trans q5))
      go_wp2_with fail
      go_roundw
      case rel => exact ⟨k + 1, by omega, by omega, by go_num, qr4.trans p5⟩
      case measure => simp [intOf]; omega
    · go_wp2_with fail
      refine (rightT_any _ _ _ _ _ _ ks _ rfl Hm.out ((Hk2.out.q (Nat.le_refl _) qr).more qr.size) ((HS2.out.q (Nat.le_refl _) qr).more qr.size) Hst.out.dist (fun k hk => by have := HsM.out k hk; unfold maxLen; omega) hl).mono ?_
      rintro e w3 ⟨rfl, q3⟩
      go_wp2_with fail
      go_ret
      exact ⟨rfl, (q02.trans qr).trans q3⟩
end Go.Proofs.Ytgnbempkobgeiaa.Tm
