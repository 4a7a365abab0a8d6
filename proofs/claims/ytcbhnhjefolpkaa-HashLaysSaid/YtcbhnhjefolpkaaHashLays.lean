/-
  HashLays holds: of keys that are laid each one's place stands in one slot, and nothing else does. No conditions.
-/
import Derived.Test.YtcbhnhjefolpkaaHashY
import Derived.Test.YtcbhnhjefolpkaaRows
namespace Go.Proofs.Ytcbhnhjefolpkaa.hashLays
open Go.ChangeShapes Go.WideShapes Go.ChangeAt Go.RowKit Kit Hs

structure Uq (n : Nat) (sl : List Int) : Prop where
  one : ∀ (s t : Nat) (v : Int), sl[s]? = some v → sl[t]? = some v → v ≠ 0 → s = t
  cnt : nz sl = n
theorem nz_put {sl : List Int} {s : Nat} {v : Int} (h : sl[s]? = some 0) (hv : v ≠ 0) : nz (sl.set s v) = nz sl + 1 := by
  induction sl generalizing s with
  | nil => simp at h
  | cons x l ih =>
    cases s with
    | zero =>
      obtain rfl : x = 0 := by simpa using h
      simp only [List.set_cons_zero, nz, List.countP_cons]
      rw [if_pos (by simpa using hv), if_neg (by simp)]
    | succ s =>
      have := ih (s := s) (by simpa using h)
      simp only [List.set_cons_succ, nz, List.countP_cons] at this ⊢
      omega
theorem uq_step {ks : List (List Int)} {n : Nat} {sl : List Int} {key : List Int} (h : Inv ks n sl) (u : Uq n sl) (hn : n < sl.length) : Uq (n + 1) (putSlot sl key n) := by
  obtain ⟨J, hJ, hz, _, hs⟩ := free_way (hashN key) (Nat.lt_of_le_of_lt h.few hn)
  have hsl : (hashN key + J) % sl.length < sl.length := Nat.mod_lt _ (by omega)
  have e : putSlot sl key n = sl.set ((hashN key + J) % sl.length) ((n : Int) + 1) := by unfold putSlot slotOf; rw [hs]; rfl
  rw [e]
  obtain ⟨s, hse⟩ : ∃ s, (hashN key + J) % sl.length = s := ⟨_, rfl⟩
  rw [hse] at hz hsl ⊢
  refine ⟨fun a b v ha hb hv => ?_, by rw [nz_put hz (by omega), u.cnt]⟩
  by_cases ea : s = a
  · by_cases eb : s = b
    · omega
    · subst ea
      rw [List.getElem?_set_self hsl] at ha
      rw [List.getElem?_set_ne eb] at hb
      injection ha with ha
      have := h.range b v hb
      omega
  · by_cases eb : s = b
    · subst eb
      rw [List.getElem?_set_self hsl] at hb
      rw [List.getElem?_set_ne ea] at ha
      injection hb with hb
      have := h.range a v ha
      omega
    · rw [List.getElem?_set_ne ea] at ha
      rw [List.getElem?_set_ne eb] at hb
      exact u.one a b v ha hb hv
theorem layF_uq (ks : List (List Int)) : ∀ (m i : Nat) (sl : List Int), m = ks.length - i → Inv ks i sl → Uq i sl → i ≤ ks.length → ks.length < sl.length → Uq ks.length (layF (ks.drop i) i sl)
  | 0, i, sl, hm, _, u, hi, _ => by
    rw [layF_end ks i sl (by omega), show ks.length = i by omega]; exact u
  | m + 1, i, sl, hm, h, u, hi, hl => by
    have hlt : i < ks.length := by omega
    rw [layF_at ks i sl hlt]
    exact layF_uq ks m (i + 1) _ (by omega) (h.step (by omega) (List.getElem?_eq_getElem hlt)) (uq_step h u (by omega)) (by omega) (by rw [putSlot_length]; exact hl)
theorem lay_uq (ks : List (List Int)) : Uq ks.length (layI ks) := by
  have := layF_uq ks _ 0 _ rfl (Inv.start ks (sizeN ks.length)) ⟨fun s t v hs _ hv => by rw [List.getElem?_replicate] at hs; split at hs <;> simp at hs; omega, nz_replicate _⟩ (Nat.zero_le _) (by rw [List.length_replicate]; exact sizeN_gt _)
  simpa [layI] using this

/-- is v among the first k slots? -/
def seenL (sl : List Int) (k v : Nat) : Bool := (sl.take k).any (· == (v : Int))
theorem seen_succ (sl : List Int) (k v : Nat) (h : k < sl.length) : seenL sl (k + 1) v = (seenL sl k v || (sl[k] == (v : Int))) := by
  unfold seenL
  rw [List.take_succ_eq_append_getElem h, List.any_append]
  simp
theorem nz_take_succ (sl : List Int) (k : Nat) (h : k < sl.length) : nz (sl.take (k + 1)) = nz (sl.take k) + (if sl[k] = 0 then 0 else 1) := by
  unfold nz
  rw [List.take_succ_eq_append_getElem h, List.countP_append]
  by_cases e : sl[k] = 0 <;> simp [e]
theorem seen_not {n : Nat} {sl : List Int} (u : Uq n sl) {k v : Nat} (hk : k < sl.length) (hv : sl[k] = (v : Int)) (h0 : v ≠ 0) : seenL sl k v = false := by
  cases h : seenL sl k v
  · rfl
  · unfold seenL at h
    rw [List.any_eq_true] at h
    obtain ⟨x, hx, e⟩ := h
    obtain ⟨j, hj, rfl⟩ := List.getElem_of_mem hx
    have hjk : j < k := by rw [List.length_take] at hj; omega
    have hjs : j < sl.length := by omega
    have e' : sl[j] = (v : Int) := by simpa using e
    have := u.one j k v (by rw [List.getElem?_eq_getElem hjs, e']) (by rw [List.getElem?_eq_getElem hk, hv]) (by omega)
    omega

def OwnB (w : World) (g n : Nat) (f : Nat → Bool) : Prop := g < w.heap.size ∧ ∀ i, i < n → w.cell? ⟨g, i, none⟩ = some (.bool (f i)) ∧ w.frozen? ⟨g, i, none⟩ = false
theorem OwnB.set {w : World} {g n : Nat} {f : Nat → Bool} (h : OwnB w g n f) {s : Nat} : OwnB (w.setCell ⟨g, s, none⟩ (.bool true)) g n (fun i => f i || (s == i)) := by
  refine ⟨by simp [World.setCell]; exact h.1, fun i hi => ?_⟩
  rw [World.frozen?_setCell]
  by_cases e : s = i
  · subst e
    refine ⟨?_, (h.2 s hi).2⟩
    rw [World.cell?_setCell_same' _ _ _ (by rw [(h.2 s hi).1]; rfl)]
    simp
  · have e2 := World.cell?_setCell_other (w := w) (a := ⟨g, s, none⟩) (b := ⟨g, i, none⟩) (v := .bool true) (by intro h; injection h with _ h; exact e h)
    refine ⟨?_, (h.2 i hi).2⟩
    rw [e2, (h.2 i hi).1]
    simp [e]
theorem OwnB.made (w : World) (n : Nat) (t : TypeId) : OwnB (w.alloc (.cells (madeCells #[.bool false] n) t)) w.heap.size n (fun _ => false) := by
  refine ⟨by simp, fun i hi => ⟨?_, World.frozen?_alloc_at _ _ _ _ rfl⟩⟩
  rw [cell_of_row _ _ _ _ _ _ (heap_alloc_new w _)]
  simp [madeCells, hi, Nat.mod_one]
theorem OwnI.far {w : World} {g : Nat} {sl : List Int} (h : OwnI w g sl) {b i : Nat} (hb : b ≠ g) (v : Value) : OwnI (w.setCell ⟨b, i, none⟩ v) g sl :=
  ⟨by simp [World.setCell]; exact h.1, fun j x hx => ⟨(World.cell?_setCell_far _ _ _ _ hb).trans (h.2 j x hx).1, by rw [World.frozen?_setCell]; exact (h.2 j x hx).2⟩⟩

theorem boolInfo : (Try.prog.info? 4).map (fun i => (i.zero, i.size, i.bytes)) = some (some (.bool false), 1, 1) := by kernel_rfl
theorem make_bools (n : Nat) (hn : n ≤ 100000000) (u : World) : (Instr.makeSlice 40 (.int .i64 (n : Int)) (.int .i64 (n : Int))).run Try.prog u = .ok (.slice (some ⟨u.heap.size, 0, none⟩) n n) (u.alloc (.cells (madeCells #[.bool false] n) 4)) := by
  obtain ⟨i0, hi, hz0, hz1, hz2⟩ := info_parts boolInfo
  have h := run_make (P := Try.prog) u 40 4 i0 _ Try.underlying40 hi hz0 .i64 .i64 (n : Int) (n : Int) (by omega) (by omega) (by rw [hz2]; omega) (by omega)
  rw [hz1, Nat.mul_one] at h
  exact h

set_option maxRecDepth 100000 in
set_option maxHeartbeats 2000000 in
theorem walk_in (A : Option Addr) (c : Nat) (ks : List (List Int)) (w : World) (hk : Keys w w.heap.size A ks) (hl : ks.length ≤ 200) (hf : fewB ks 0 = true) :
    Calls Try.prog 7 #[.slice A ks.length c] w fun e w' => e = .returned (.bool true) ∧ Q w w' := by
  have Hk := Lib.hid hk
  have Hs := Lib.hid (few_lens hf)
  have hs1 : ∀ k ∈ ks, k.length ≤ 1152921504606846976 := fun k hk => by have := few_sum hf; have := mem_len hk; omega
  have HU := Lib.hid (lay_uq ks)
  have HV := Lib.hid (lay_inv ks)
  have HL := Lib.hid (layI_length ks)
  have hN := sizeN_le ks.length
  have hl' : ¬ (200 : Int) < (ks.length : Int) := by omega
  have hmk : ∀ u : World, (Instr.makeSlice 40 (.int .i64 ((ks.length : Int) + 1)) (.int .i64 ((ks.length : Int) + 1))).run Try.prog u = .ok (.slice (some ⟨u.heap.size, 0, none⟩) (ks.length + 1) (ks.length + 1)) (u.alloc (.cells (madeCells #[.bool false] (ks.length + 1)) 4)) := fun u => make_bools (ks.length + 1) (by omega) u
  obtain ⟨sl, hsl⟩ : ∃ sl, sl = layI ks := ⟨_, rfl⟩
  have HSL := Lib.hid hsl
  rw [← hsl] at HU HV HL
  obtain ⟨N, hNe⟩ : ∃ N, N = sizeN ks.length := ⟨_, rfl⟩
  have HNe := Lib.hid hNe
  rw [← hNe] at hN HL
  have hNN : ((N : Int) != (N : Int)) = false := by simp
  clear hsl hNe hk
  go_enter Try.func7, Try.ntmps7
  go_wp2_with fail
  refine (shown_any _).mono ?_
  rintro e w1 ⟨rfl, q1⟩
  go_wp2_with fail
  refine (refFew_any _ _ _ _ _ _ ks _ rfl ((Hk.out.q (Nat.le_refl _) q1).more q1.size) (by omega) hs1 (by omega)).mono ?_
  rintro e w2 ⟨rfl, q2⟩
  rw [hf]
  have q02 := q1.trans q2
  go_wp2_with fail
  refine (lay_any _ _ _ ks _ rfl ((Hk.out.q (Nat.le_refl _) q02).more q02.size) (by omega) Hs.out).mono ?_
  rintro e w3 ⟨g, rfl, hg, hO, q3⟩
  rw [← HSL.out] at hO
  rw [← HNe.out]
  have q03 := q02.trans q3
  have HO := Lib.hid hO
  clear hO
  go_wp2_with fail
  refine (size_any _ _ (by omega)).mono ?_
  rintro e w4 ⟨rfl, rfl⟩
  rw [← HNe.out]
  go_wp2_with fail
  clear hmk
  have qs := (Q.refl w3).alloc (.cells (madeCells #[.bool false] (ks.length + 1)) 4)
  have HB := Lib.hid (OwnB.made w3 (ks.length + 1) 4)
  have HO4 := Lib.hid (HO.out.q qs)
  have hgb : g < w3.heap.size := HO.out.1
  have q04 := q03.trans qs
  generalize w3.alloc (.cells (madeCells #[.bool false] (ks.length + 1)) 4) = W4 at *
  have hw3 : w.heap.size ≤ w3.heap.size := q03.size
  go_loopw [6, 7] (fun mn i wr => ∃ (k a : Nat), k ≤ N ∧ i = .int .i64 k ∧ mn = .int .i64 a ∧ a ≤ k ∧ Hid (a = nz (sl.take k)) ∧ Hid (∃ f, OwnB wr w3.heap.size (ks.length + 1) f ∧ ∀ v : Nat, 0 < v → f v = seenL sl k v) ∧ Hid (OwnI wr g sl) ∧ Q w wr) (fun _ i _ => N - (intOf i).toNat)
  case atStart => exact ⟨0, 0, Nat.zero_le _, rfl, rfl, Nat.le_refl _, Lib.hid (by simp [nz]), Lib.hid ⟨_, HB.out, fun v _ => by simp [seenL]⟩, HO4, q04⟩
  case round =>
    obtain ⟨k, a, hkN, rfl, rfl, hak, HA, HF, HOr, qr⟩ := hrel
    by_cases hlt : k < N
    · have hks : k < sl.length := by have := HL.out; omega
      have h0 := (HOr.out.at_ hks).1
      have hr := HV.out.range k _ (List.getElem?_eq_getElem hks)
      have HT := Lib.hid (nz_take_succ sl k hks)
      obtain ⟨u, hu⟩ := Int.eq_ofNat_of_zero_le hr.1
      rw [hu] at h0 hr
      have Hu := Lib.hid hu
      obtain ⟨f, hB, hfs⟩ := HF.out
      by_cases hz : u = 0
      · subst hz
        have HT' : Hid (a = nz (sl.take (k + 1))) := by unfold Hid; rw [HT.out, if_pos (by rw [Hu.out]; rfl), HA.out]; rfl
        have HF' : Hid (∃ f, OwnB wr w3.heap.size (ks.length + 1) f ∧ ∀ v : Nat, 0 < v → f v = seenL sl (k + 1) v) := Lib.hid ⟨f, hB, fun v hv => by rw [hfs v hv, seen_succ sl k v hks, Hu.out]; cases v with
          | zero => omega
          | succ v => simp; omega⟩
        clear hB hfs hu hr
        go_wp2_with fail
        go_roundw
        case rel => exact ⟨k + 1, a, by omega, by go_num, rfl, by omega, HT', HF', HOr, qr⟩
        case measure => simp [intOf]; omega
      · have hun : u < ks.length + 1 := by omega
        have hc := (hB.2 u hun).1
        have hfz := (hB.2 u hun).2
        rw [hfs u (by omega), seen_not HU.out hks Hu.out hz] at hc
        have HT' : Hid (a + 1 = nz (sl.take (k + 1))) := by unfold Hid; rw [HT.out, if_neg (by rw [Hu.out]; omega), HA.out]
        have HF' : Hid (∃ f, OwnB (wr.setCell ⟨w3.heap.size, u, none⟩ (.bool true)) w3.heap.size (ks.length + 1) f ∧ ∀ v : Nat, 0 < v → f v = seenL sl (k + 1) v) := Lib.hid ⟨_, hB.set, fun v hv => by
          show (f v || (u == v)) = _
          rw [hfs v hv, seen_succ sl k v hks, Hu.out]
          congr 1
          by_cases e : u = v
          · subst e; simp
          · have e' : ¬ ((u : Int) = (v : Int)) := by omega
            rw [beq_eq_false_iff_ne.2 e, beq_eq_false_iff_ne.2 e']⟩
        have HO' := Lib.hid (OwnI.far HOr.out (b := w3.heap.size) (i := u) (by omega) (.bool true))
        have hu0 : (0 : Int) < (u : Int) := by omega
        have hu1 : (u : Int) < (ks.length : Int) + 1 := by omega
        have hu2 : ¬ (ks.length : Int) < (u : Int) := by omega
        clear hB hfs hu hr
        go_wp2_with fail
        go_roundw
        case rel => exact ⟨k + 1, a + 1, by omega, by go_num, by go_num, by omega, HT', HF', HO', qr.setCell (p := ⟨w3.heap.size, u, none⟩) hw3 _⟩
        case measure => simp [intOf]; omega
    · have e : a = ks.length := by
        rw [HA.out, List.take_of_length_le (by have := HL.out; omega)]
        exact HU.out.cnt
      subst e
      have hee : ((ks.length : Int) == (ks.length : Int)) = true := by simp
      go_wp2_with fail
      go_ret
      exact ⟨rfl, qr⟩

set_option maxRecDepth 100000 in
set_option maxHeartbeats 1000000 in
theorem walk (A : Option Addr) (c : Nat) (ks : List (List Int)) (w : World) (hk : Keys w w.heap.size A ks) (hl : ks.length ≤ 1152921504606846976) (hs : ∀ k ∈ ks, k.length ≤ 1152921504606846976) :
    Calls Try.prog 7 #[.slice A ks.length c] w fun e w' => e = .returned (.bool true) ∧ Q w w' := by
  by_cases h2 : 200 < ks.length
  · have h2' : (200 : Int) < (ks.length : Int) := by omega
    go_enter Try.func7, Try.ntmps7
    go_wp2_with fail
    refine (shown_any _).mono ?_
    rintro e w1 ⟨rfl, q1⟩
    go_wp2_with fail
    go_ret
    exact ⟨rfl, q1⟩
  · cases hf : fewB ks 0
    · have h2' : ¬ (200 : Int) < (ks.length : Int) := by omega
      go_enter Try.func7, Try.ntmps7
      go_wp2_with fail
      refine (shown_any _).mono ?_
      rintro e w1 ⟨rfl, q1⟩
      go_wp2_with fail
      refine (refFew_any _ _ _ _ _ _ ks _ rfl ((hk.q (Nat.le_refl _) q1).more q1.size) hl hs (by omega)).mono ?_
      rintro e w2 ⟨rfl, q2⟩
      rw [hf]
      go_wp2_with fail
      go_ret
      exact ⟨rfl, q1.trans q2⟩
    · exact walk_in A c ks w hk (by omega) hf

set_option maxRecDepth 100000 in
theorem lifted (os : Os) (started : os.Started) (H : Type) (enc : TypeId × Value → H) :
    ReturnsInHanded {} Try.checked os 7 .any (Rows.hashLaysSpec.pre6 enc Try.prog Try.f7 Rows.hashLaysRow.domain false) (Rows.hashLaysSpec.post enc Try.prog Try.f7 false true false false) := by
  refine returnsInHanded_of_change_sized (C := Try.checked) own started (by kernel_rfl) Try.func7
    (ChangeSpec.witness6 (enc := enc) (C := Try.checked) false ⟨#[], #[.slice none 0 0], []⟩ 8 (by kernel_rfl) (by kernel_rfl) (by kernel_rfl) (by kernel_rfl)) ?_
  intro W base args ds gs before hval0 hW hcnd hsz0 _
  have hval : ∀ (j : Nat) t v, Try.f7.params[j]? = some t → args[j]? = some v → Value.okWide Try.prog W .any base t v := hval0
  have hW' := hW
  obtain ⟨p, q, hA0, hV, rfl, hfz, hnd⟩ := hW
  have hA : DataW.TrodAll enc Try.prog W 0 (fun _ => true) true Try.f7.params.toList args.toList ds p := hA0
  rw [Try.params7] at hA hval
  obtain ⟨v0, vs0, d0, ds0, p0, q0, hargs, rfl, rfl, h0, r0⟩ := trodAll_cons hA
  obtain ⟨rfl, rfl, rfl⟩ := trodAll_nil r0
  obtain rfl : args = #[v0] := by cases args; simp_all
  obtain ⟨rfl, rfl⟩ := trodVars_none hV
  have z0 : ∀ n ∈ d0.weights Try.prog 22, n ≤ reachBytes := fun n hn => by
    have := List.all_eq_true.1 hsz0 n (DataW.weights_mem_each (j := 0) (t := 22) (d := d0) (by rw [Try.params7]; rfl) rfl n hn)
    simpa using this
  obtain ⟨A, n, c, ks, rfl, rfl, hk, hl, hs⟩ := open_rows (hval 0 22 v0 rfl rfl) h0 z0
  clear hA0 hval0
  refine (walk A c ks W hk hl hs).mono fun e W' ⟨he, hg⟩ => ?_
  subst he
  exact ⟨_, rfl, post_law laid (by rw [Try.params7]; decide +kernel) rfl rfl (by kernel_rfl) Try.underlying4 hW' hg⟩

/-- THE STATEMENT -/
theorem proved : Rows.HashLaysSaid :=
  OpenClaim.holds_of_wide 7 Try.f7 rfl rfl rfl rfl rfl rfl rfl ⟨rfl, rfl, rfl, rfl, rfl⟩ rfl rfl rfl rfl rfl (by kernel_rfl) Try.func7 (by kernel_rfl)
    (of_decide_eq_true (by kernel_rfl)) (by unfold Func.isWrapper; first | (rw [if_pos (by decide +kernel)]; kernel_rfl) | (rw [if_neg (by decide +kernel)]; exact ⟨rfl, rfl⟩))
    (fun os started H enc _ => lifted os started H enc)
end Go.Proofs.Ytcbhnhjefolpkaa.hashLays
