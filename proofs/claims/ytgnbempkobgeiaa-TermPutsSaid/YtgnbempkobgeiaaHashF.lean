/-
  Contract of hash.copyKeys: the keys of two rows, one behind the other, in memory of the call's own.
-/
import Derived.Test.YtgnbempkobgeiaaHashE
namespace Go.Proofs.Ytgnbempkobgeiaa.Hs
open Go.RowKit Kit

/-- the values of a row's cells -/
theorem Keys.vals {w : World} {B : Nat} {A : Option Addr} {ks : List (List Int)} (h : Keys w B A ks) :
    ∃ vs : List Value, vs.length = ks.length ∧ SrcB w B A vs ∧ ∀ (i : Nat) (k : List Int), ks[i]? = some k → ∃ a c, k.length ≤ c ∧ vs[i]? = some (Value.slice a k.length c) ∧ Ints w B a k := by
  rcases Nat.eq_zero_or_pos ks.length with h0 | h0
  · obtain rfl := List.eq_nil_of_length_eq_zero h0
    exact ⟨[], rfl, fun h => by simp at h, fun i k hk => by simp at hk⟩
  · obtain ⟨ad, e, hlt, hc⟩ := h h0
    have hv : ∀ (i : Nat) (k : List Int), ks[i]? = some k → ∃ a c, k.length ≤ c ∧ ((List.range ks.length).map fun i => (w.cell? (ad.add i)).getD undef)[i]? = some (Value.slice a k.length c) ∧ w.cell? (ad.add i) = some (Value.slice a k.length c) ∧ Ints w B a k := fun i k hk => by
      obtain ⟨a, c, hle, c0, hi⟩ := hc i k hk
      have hil := (List.getElem?_eq_some_iff.1 hk).1
      exact ⟨a, c, hle, by simp [hil, c0], c0, hi⟩
    refine ⟨(List.range ks.length).map fun i => (w.cell? (ad.add i)).getD undef, by simp, fun _ => ⟨ad, e, hlt, fun j v hj => ?_⟩, fun i k hk => ?_⟩
    · have hjl : j < ks.length := by have := (List.getElem?_eq_some_iff.1 hj).1; simpa using this
      obtain ⟨a, c, _, h1, h2, _⟩ := hv j ks[j] (List.getElem?_eq_getElem hjl)
      rw [h1] at hj
      rw [h2, hj]
    · obtain ⟨a, c, hle, h1, _, h3⟩ := hv i k hk
      exact ⟨a, c, hle, h1, h3⟩
theorem vals_one {w : World} {B : Nat} {ks : List (List Int)} {vs : List Value} (hl : vs.length = ks.length) (h : ∀ (i : Nat) (k : List Int), ks[i]? = some k → ∃ a c, k.length ≤ c ∧ vs[i]? = some (Value.slice a k.length c) ∧ Ints w B a k) : ∀ u ∈ vs, u.oneCell' = true := fun u hu => by
  obtain ⟨i, hi, rfl⟩ := List.getElem_of_mem hu
  obtain ⟨a, c, _, e, _⟩ := h i ks[i] (List.getElem?_eq_getElem (by omega))
  rw [List.getElem?_eq_getElem hi] at e
  injection e with e
  rw [e]
  rfl

/-- a slice value that reads as these numbers, all in block gr -/
def IntsIn (w : World) (gr : Nat) (A : Option Addr) (xs : List Int) : Prop := 0 < xs.length → ∃ ad, A = some ad ∧ ad.block = gr ∧ ∀ i x, xs[i]? = some x → w.cell? (ad.add i) = some (.int .i64 x)
theorem IntsIn.ints {w : World} {gr B : Nat} {A : Option Addr} {xs : List Int} (h : IntsIn w gr A xs) (hB : gr < B) : Ints w B A xs := fun h0 => by
  obtain ⟨ad, e, hb, hc⟩ := h h0
  exact ⟨ad, e, by omega, hc⟩
theorem IntsIn.set {w : World} {gr : Nat} {A : Option Addr} {xs : List Int} (h : IntsIn w gr A xs) {g i : Nat} (hg : g ≠ gr) (v : Value) : IntsIn (w.setCell ⟨g, i, none⟩ v) gr A xs := fun h0 => by
  obtain ⟨ad, e, hb, hc⟩ := h h0
  refine ⟨ad, e, hb, fun j x hx => (World.cell?_setCell_far _ _ _ _ ?_).trans (hc j x hx)⟩
  rw [add_block, hb]; exact hg
theorem IntsIn.take {w : World} {gr : Nat} {A : Option Addr} {xs : List Int} (h : IntsIn w gr A xs) (n : Nat) : IntsIn w gr A (xs.take n) := fun h0 => by
  have h1 : 0 < xs.length := by rw [List.length_take] at h0; omega
  obtain ⟨ad, e, hb, hc⟩ := h h1
  refine ⟨ad, e, hb, fun i x hx => hc i x ?_⟩
  rw [List.getElem?_take] at hx
  split at hx
  · exact hx
  · cases hx
def cutAt (A : Option Addr) (c n : Nat) : Option Addr := if c = n then A else A.map (·.add n)
theorem IntsIn.drop {w : World} {gr : Nat} {A : Option Addr} {xs : List Int} (h : IntsIn w gr A xs) (n c : Nat) (hc : xs.length ≤ c) : IntsIn w gr (cutAt A c n) (xs.drop n) := fun h0 => by
  rw [List.length_drop] at h0
  obtain ⟨ad, rfl, hb, hcc⟩ := h (by omega)
  refine ⟨ad.add n, ?_, by rw [add_block]; exact hb, fun i x hx => ?_⟩
  · unfold cutAt; rw [if_neg (by omega)]; rfl
  · rw [List.getElem?_drop] at hx
    rw [Addr.add_add]
    exact hcc _ x hx

/-- the row that is filled: its cells are slices of the keys' lengths; the first k read as the keys -/
def Fill (w : World) (g gr : Nat) (ks : List (List Int)) (k : Nat) : Prop :=
  ∀ i key, ks[i]? = some key → w.frozen? ⟨g, i, none⟩ = false ∧ ∃ a c, key.length ≤ c ∧ w.cell? ⟨g, i, none⟩ = some (.slice a key.length c) ∧ (i < k → IntsIn w gr a key)
theorem Fill.step {w : World} {g gr : Nat} {ks : List (List Int)} {k : Nat} (h : Fill w g gr ks k) (hk : k < ks.length) (hg : g ≠ gr) {a : Option Addr} (ha : IntsIn w gr a ks[k]) :
    Fill (w.setCell ⟨g, k, none⟩ (.slice a ks[k].length ks[k].length)) g gr ks (k + 1) := fun i key hi => by
  obtain ⟨f, a', c', hle, c0, hI⟩ := h i key hi
  rw [World.frozen?_setCell]
  by_cases e : k = i
  · subst e
    rw [List.getElem?_eq_getElem hk] at hi
    obtain rfl : ks[k] = key := by simpa using hi
    exact ⟨f, a, _, Nat.le_refl _, World.cell?_setCell_same' _ _ _ (by rw [c0]; rfl), fun _ => ha.set hg _⟩
  · refine ⟨f, a', c', hle, ?_, fun hlt => (hI (by omega)).set hg _⟩
    have := World.cell?_setCell_other (w := w) (a := ⟨g, k, none⟩) (b := ⟨g, i, none⟩) (v := .slice a ks[k].length ks[k].length) (by intro h; injection h with _ h; exact e h)
    exact this.trans c0
theorem mem_len {ks : List (List Int)} {k : List Int} (h : k ∈ ks) : k.length ≤ ks.flatten.length := by
  induction ks with
  | nil => cases h
  | cons x l ih =>
    rw [List.flatten_cons, List.length_append]
    rcases List.mem_cons.1 h with rfl | h
    · omega
    · have := ih h; omega
theorem Fill.keys {w W : World} {g gr lo B : Nat} {ks : List (List Int)} (h : Fill w g gr ks ks.length) (hg : g < B) (hgr : gr < B ∨ ks.flatten.length = 0) (l1 : lo ≤ g) (l2 : lo ≤ gr) (hW : ∀ p : Addr, lo ≤ p.block → p.block < B → W.cell? p = w.cell? p) : Keys W B (some ⟨g, 0, none⟩) ks := fun _ => by
  refine ⟨_, rfl, hg, fun i k hk => ?_⟩
  obtain ⟨_, a, c, hle, c0, hI⟩ := h i k hk
  have hil := (List.getElem?_eq_some_iff.1 hk).1
  refine ⟨a, c, hle, by rw [add_zero_head, hW _ l1 hg]; exact c0, ?_⟩
  intro hp
  obtain ⟨ad, e, hb, hc⟩ := hI hil hp
  have hgB : gr < B := by
    rcases hgr with hgr | h0
    · exact hgr
    · have : k.length ≤ ks.flatten.length := mem_len (List.mem_of_getElem? hk)
      omega
  exact ⟨ad, e, by omega, fun j x hx => by rw [hW _ (by rw [add_block, hb]; exact l2) (by rw [add_block, hb]; exact hgB)]; exact hc j x hx⟩

theorem slice_hm (A : Option Addr) (n c l : Nat) (h : l ≤ c) (u : World) : (Instr.slice 24 (.slice A n c) none (some (.int .i64 (l : Int))) (some (.int .i64 (l : Int)))).run Try.prog u = .ok (.slice A l l) u := by
  obtain ⟨i0, hi, hz0, hz1, hz2⟩ := info_parts intInfo
  simp [Instr.slice, run_underlying Try.underlying24, Instr.sliceBounds, Instr.sliceBound, asIntOf, sizeOf, typeInfo, hi, h, Addr.add]
theorem slice_l (A : Option Addr) (n c l : Nat) (h : l ≤ n) (u : World) : (Instr.slice 24 (.slice A n c) (some (.int .i64 (l : Int))) none none).run Try.prog u = .ok (.slice (cutAt A c l) (n - l) (c - l)) u := by
  obtain ⟨i0, hi, hz0, hz1, hz2⟩ := info_parts intInfo
  simp [Instr.slice, run_underlying Try.underlying24, Instr.sliceBounds, Instr.sliceBound, asIntOf, sizeOf, typeInfo, hi, hz1, h, cutAt]

theorem own_form {w : World} {base n : Nat} {e : TypeId} {v : Value} {xs : List Value} (h : w.ownsRow base e 1 v n xs) :
    ∃ A c, v = .slice A n c ∧ n ≤ c ∧ (0 < n → ∃ g, A = some ⟨g, 0, none⟩ ∧ base ≤ g ∧ g < w.heap.size ∧ ∀ j u, xs[j]? = some u → w.cell? ⟨g, j, none⟩ = some u ∧ w.frozen? ⟨g, j, none⟩ = false) := by
  have h2 := h
  obtain ⟨hl, ⟨rfl, rfl⟩ | ⟨g, cap, cur, rfl, hg, hh, hc, _⟩⟩ := h
  · exact ⟨none, 0, rfl, Nat.le_refl _, fun h => by omega⟩
  · refine ⟨_, cap, rfl, hc, fun _ => ⟨g, rfl, hg, (Array.getElem?_eq_some_iff.1 hh).1, fun j u hu => ⟨?_, h2.frozenAt j⟩⟩⟩
    have := h2.cells (g := g) rfl j u hu
    rwa [add_zero_head] at this

def CopyPost (ks : List (List Int)) (w : World) (e : Ending) (w' : World) : Prop :=
  ∃ A c, e = .returned (.slice A ks.length c) ∧ (∀ W : World, (∀ p : Addr, w.heap.size ≤ p.block → p.block < w'.heap.size → W.cell? p = w'.cell? p) → Keys W w'.heap.size A ks) ∧ Q w w' ∧ ks.length ≤ c

theorem flat_cells (ks : List (List Int)) : (ks.map cellsI).flatten = cellsI ks.flatten := by
  induction ks with
  | nil => rfl
  | cons k ks ih => simp [cellsI] at ih ⊢; exact ih
theorem two_rows (w : World) (A A' : Option Addr) (n c n' c' : Nat) (V V' : List Value) (t : TypeId) (hn : n = V.length) (hn' : n' = V'.length) (h : SrcB w w.heap.size A V) (h' : SrcB w w.heap.size A' V') :
    Rws (w.alloc (.cells #[.slice A n c, .slice A' n' c'] t)) (w.alloc (.cells #[.slice A n c, .slice A' n' c'] t)).heap.size (some ⟨w.heap.size, 0, none⟩) [V, V'] := fun _ => by
  subst hn
  subst hn'
  have q := (Q.refl w).alloc (.cells #[.slice A V.length c, .slice A' V'.length c'] t)
  refine ⟨_, rfl, by simp, fun i r hr => ?_⟩
  rw [add_zero_head, cell_of_row _ _ _ _ _ _ (heap_alloc_new w _)]
  match i, hr with
  | 0, hr =>
    obtain rfl : V = r := by simpa using hr
    exact ⟨A, c, rfl, (h.keep q).more q.size⟩
  | 1, hr =>
    obtain rfl : V' = r := by simpa using hr
    exact ⟨A', c', rfl, (h'.keep q).more q.size⟩

theorem vals_append {w : World} {B : Nat} {ks ks' : List (List Int)} {vs vs' : List Value} (hl : vs.length = ks.length) (h : ∀ (i : Nat) (k : List Int), ks[i]? = some k → ∃ a c, k.length ≤ c ∧ vs[i]? = some (Value.slice a k.length c) ∧ Ints w B a k)
    (h' : ∀ (i : Nat) (k : List Int), ks'[i]? = some k → ∃ a c, k.length ≤ c ∧ vs'[i]? = some (Value.slice a k.length c) ∧ Ints w B a k) :
    ∀ (i : Nat) (k : List Int), (ks ++ ks')[i]? = some k → ∃ a c, k.length ≤ c ∧ (vs ++ vs')[i]? = some (Value.slice a k.length c) ∧ Ints w B a k := fun i k hk => by
  rw [List.getElem?_append] at hk ⊢
  rw [hl]
  split at hk
  · rename_i h1; rw [if_pos h1]; exact h i k hk
  · rename_i h1; rw [if_neg h1]; exact h' _ k hk

set_option maxRecDepth 100000 in
set_option maxHeartbeats 1000000 in
theorem copyKeys_any (A A' : Option Addr) (n c n' c' : Nat) (ks ks' : List (List Int)) (w : World) (hn : n = ks.length) (hn' : n' = ks'.length) (hk : Keys w w.heap.size A ks) (hk' : Keys w w.heap.size A' ks')
    (hl : (ks ++ ks').length ≤ 10000) (ht : (ks ++ ks').flatten.length ≤ 100000) :
    Calls Try.prog 57 #[.slice A n c, .slice A' n' c'] w (CopyPost (ks ++ ks') w) := by
  obtain ⟨V, hV, sV, vV⟩ := hk.vals
  obtain ⟨V', hV', sV', vV'⟩ := hk'.vals
  have hW := Lib.hid (two_rows w A A' n c n' c' V V' 23 (by omega) (by omega) sV sV')
  have H1 : Hid (∀ r ∈ [V, V'], ∀ u ∈ r, u.oneCell' = true) := fun r hr u hu => by
    simp only [List.mem_cons, List.not_mem_nil, or_false] at hr
    rcases hr with rfl | rfl
    · exact vals_one hV vV u hu
    · exact vals_one hV' vV' u hu
  have HV := Lib.hid (vals_append hV vV vV')
  obtain ⟨K, hK⟩ : ∃ K, K = ks ++ ks' := ⟨_, rfl⟩
  have HL : Hid ([V, V'].flatten.length = K.length) := by rw [hK]; exact Lib.hid (by simp [hV, hV'])
  have HF : Hid ([V, V'].flatten = V ++ V') := Lib.hid (by simp)
  rw [← hK] at hl ht HV ⊢
  clear hK hn hn' hk hk' sV vV sV' vV' hV hV'
  go_enter Try.func57, Try.ntmps57
  go_wp2_with fail
  refine (concatK_any _ _ _ [V, V'] _ rfl hW.out (by simp) (by rw [HL.out]; omega) H1.out).mono ?_
  rintro e w1 ⟨v1, rfl, own1, q1⟩
  rw [HL.out, HF.out] at own1
  have q01 := ((Q.refl w).alloc (.cells #[.slice A n c, .slice A' n' c'] 23)).trans q1
  obtain ⟨A1, c1, hv1, hcp1, hf1⟩ := own_form own1
  have Hcp := Lib.hid hcp1
  clear hcp1
  rw [hv1]
  obtain ⟨g, hg⟩ : ∃ g, 0 < K.length → A1 = some ⟨g, 0, none⟩ ∧ w.heap.size ≤ g ∧ g < w1.heap.size ∧ ∀ j u, (V ++ V')[j]? = some u → w1.cell? ⟨g, j, none⟩ = some u ∧ w1.frozen? ⟨g, j, none⟩ = false := by
    by_cases h0 : 0 < K.length
    · obtain ⟨g, h1, h2, h3, h4⟩ := hf1 h0
      exact ⟨g, fun _ => ⟨h1, by simp at h2; omega, h3, h4⟩⟩
    · exact ⟨0, fun h => absurd h h0⟩
  have HR : Hid (Rws w1 w1.heap.size A1 (K.map cellsI)) := fun h0 => by
    obtain ⟨h1, _, h3, h4⟩ := hg (by simpa using h0)
    refine ⟨_, h1, h3, fun i r hr => ?_⟩
    rw [List.getElem?_map, Option.map_eq_some_iff] at hr
    obtain ⟨k, hk, rfl⟩ := hr
    obtain ⟨a, cc, _, hv, hi⟩ := HV.out i k hk
    exact ⟨a, cc, by rw [add_zero_head, (h4 i _ hv).1]; simp [cellsI], ((hi.q (Nat.le_refl _) q01).more q01.size).srcB⟩
  obtain ⟨T, hT⟩ : ∃ T, T = K.flatten.length := ⟨_, rfl⟩
  have HT : Hid ((K.map cellsI).flatten.length = T) := Lib.hid (by rw [flat_cells, hT]; unfold cellsI; rw [List.length_map])
  have HT' := Lib.hid hT
  rw [← hT] at ht
  clear hT
  have HO1 : Hid (∀ r ∈ K.map cellsI, ∀ u ∈ r, u.oneCell' = true) := fun r hr => by
    rw [List.mem_map] at hr
    obtain ⟨k, _, rfl⟩ := hr
    exact cellsI_one k
  have Hg := Lib.hid hg
  clear hv1 hf1 hg own1 q1 hW H1
  go_wp2_with fail
  refine (concatI_any _ _ _ (K.map cellsI) _ (by simp) HR.out (by rw [List.length_map]; exact hl) (by rw [HT.out]; exact ht) HO1.out).mono ?_
  rintro e w2 ⟨v2, rfl, own2, q2⟩
  rw [HT.out, flat_cells] at own2
  obtain ⟨A2, c2, hv2, hc2, hf2⟩ := own_form own2
  rw [hv2]
  have q02 := q01.trans q2
  obtain ⟨gr, hgr1, HI2, hgr2⟩ : ∃ gr, w1.heap.size ≤ gr ∧ Hid (IntsIn w2 gr A2 K.flatten) ∧ (gr < w2.heap.size ∨ K.flatten.length = 0) := by
    by_cases h0 : 0 < K.flatten.length
    · obtain ⟨gr, h1, h2, h3, h4⟩ := hf2 (by rw [HT'.out]; exact h0)
      refine ⟨gr, h2, Lib.hid fun _ => ⟨_, h1, rfl, fun i x hx => ?_⟩, .inl h3⟩
      rw [add_zero_head]
      exact (h4 i (.int .i64 x) (by unfold cellsI; rw [List.getElem?_map, hx]; rfl)).1
    · exact ⟨w1.heap.size, Nat.le_refl _, Lib.hid fun h => absurd h h0, .inr (by omega)⟩
  have HF0 : Hid (Fill w2 g gr K 0) := fun i key hi => by
    have hil := (List.getElem?_eq_some_iff.1 hi).1
    obtain ⟨_, _, h3, h4⟩ := Hg.out (by omega)
    obtain ⟨a, cc, hle, hv, _⟩ := HV.out i key hi
    have := h4 i _ hv
    exact ⟨(q2.frozen (p := ⟨g, i, none⟩) h3).trans this.2, a, cc, hle, (q2.cell (p := ⟨g, i, none⟩) h3).trans this.1, fun h => by omega⟩
  have Hgr2 := Lib.hid hgr2
  clear hv2 hf2 own2 HR HO1 HV hgr2
  go_wp2_with fail
  go_loopw [6, 17] (fun r i wr => ∃ (k R cr : Nat) (Ar : Option Addr), k ≤ K.length ∧ i = .int .i64 k ∧ r = .slice Ar R cr ∧ R ≤ cr ∧ R ≤ 100000 ∧ Hid (R = (K.drop k).flatten.length) ∧ Hid (IntsIn wr gr Ar (K.drop k).flatten) ∧ Hid (Fill wr g gr K k) ∧ Hid (wr.heap.size = w2.heap.size) ∧ Q w wr) (fun _ i _ => K.length - (intOf i).toNat)
  case atStart => exact ⟨0, _, _, _, Nat.zero_le _, rfl, rfl, hc2, ht, HT', HI2, HF0, Lib.hid rfl, q02⟩
  case round =>
    obtain ⟨k, R, cr, Ar, hk, rfl, rfl, hRc, hR, HRl, HI, HFi, Hsz, qr⟩ := hrel
    by_cases hlt : k < K.length
    · obtain ⟨rfl, hwg, hg1, _⟩ := Hg.out (by omega)
      obtain ⟨f0, a0, cc, _, k0, _⟩ := HFi.out k K[k] (List.getElem?_eq_getElem hlt)
      have hD : (K.drop k).flatten = K[k] ++ (K.drop (k + 1)).flatten := by rw [List.drop_eq_getElem_cons hlt, List.flatten_cons]
      have hLR : K[k].length ≤ R := by have := HRl.out; rw [hD, List.length_append] at this; omega
      have hLc : K[k].length ≤ cr := by omega
      have hs1 := slice_hm Ar R cr K[k].length hLc
      have hs2 := slice_l Ar R cr K[k].length hLR
      have HIk : Hid (IntsIn wr gr Ar K[k]) := by
        have := HI.out.take K[k].length
        rw [hD, List.take_left'] at this
        · exact this
        · rfl
      have HId : Hid (IntsIn wr gr (cutAt Ar cr K[k].length) (K.drop (k + 1)).flatten) := by
        have := HI.out.drop K[k].length cr (by have := HRl.out; omega)
        rw [hD, List.drop_left'] at this
        · exact this
        · rfl
      have HRd : Hid (R - K[k].length = (K.drop (k + 1)).flatten.length) := by have := HRl.out; rw [hD, List.length_append] at this; exact Lib.hid (by omega)
      have hgg : g ≠ gr := by omega
      have Hlt := Lib.hid hlt
      clear hD
      go_wp2_with fail
      go_roundw
      case rel => exact ⟨k + 1, _, _, _, by omega, by go_num, rfl, by omega, by omega, HRd, Lib.hid (HId.out.set hgg _), Lib.hid (HFi.out.step Hlt.out hgg HIk.out), Lib.hid (by rw [← Hsz.out]; simp [World.setCell]), qr.setCell (p := ⟨g, k, none⟩) hwg _⟩
      case measure => simp [intOf]; omega
    · obtain rfl : k = K.length := by omega
      go_wp2_with fail
      go_ret
      refine ⟨A1, c1, rfl, fun W hW h0 => ?_, qr, Hcp.out⟩
      obtain ⟨rfl, hg0, hg1, _⟩ := Hg.out h0
      exact HFi.out.keys (by rw [Hsz.out]; have := q2.size; omega) (by rw [Hsz.out]; exact Hgr2.out) hg0 (by have := q01.size; omega) hW h0
end Go.Proofs.Ytgnbempkobgeiaa.Hs
