/-
  HashMany holds: of keys that are put one by one each stands where it first stood among those that are not the same; the table is the keys, laid. No conditions.
-/
import Derived.Test.YtdedlkeeifgajaaHashW
import Derived.Test.YtdedlkeeifgajaaRows
namespace Go.Proofs.Ytdedlkeeifgajaa.hashMany
open Go.ChangeShapes Go.WideShapes Go.ChangeAt Go.RowKit Kit Hs

theorem st0 (w w2 : World) (l : List (List Int)) (q : Q w w2) : St w ((w2.alloc (.cells (madeCells #[.int .i64 0] 8) 3)).alloc (.cells #[.slice none 0 0, .slice (some ⟨w2.heap.size, 0, none⟩) 8 8] 27)) (w2.heap.size + 2) (w2.heap.size + 1) l [] 0 none 0 none 0 (some ⟨w2.heap.size, 0, none⟩) 8 (w2.heap.size + 2) [] := by
  have q1 := (Q.refl w2).alloc (.cells (madeCells #[.int .i64 0] 8) 3)
  have q2 := (Q.refl (w2.alloc (.cells (madeCells #[.int .i64 0] 8) 3))).alloc (.cells #[.slice none 0 0, .slice (some ⟨w2.heap.size, 0, none⟩) 8 8] 27)
  have hI := (OwnI.made w2 8 3).q q2
  have hl : (layI []).length = 8 := by rw [lay0]; rfl
  have hz := q.size
  refine ⟨(firstL_zero l).symm, ⟨by simp, by rw [hl]; simp, by simp, by simp, by simp⟩, World.ownsRow_nil _ _ _ _, rfl, fun i k hk => by simp at hk, by simp, fun X hX => ⟨fun h => absurd h (by simp), fun _ => ⟨_, rfl, hI.1, fun i x hx => ?_⟩⟩, fun b hb => by simp [Value.ownBlock] at hb, by simp; omega, (q.trans q1).trans q2⟩
  rw [lay0] at hx
  rw [add_zero_head, hX _ (by simp) (.inl (by simp)) hI.1]
  exact (hI.2 i x hx).1

/-- a box of a table, just laid -/
structure ZB (W : World) (B : Nat) : Prop where
  c0 : W.cell? ⟨B, 0, none⟩ = some (.slice none 0 0)
  c1 : W.cell? ⟨B, 1, none⟩ = some (.slice none 0 0)
  f0 : W.frozen? ⟨B, 0, none⟩ = false
  f1 : W.frozen? ⟨B, 1, none⟩ = false
  lt : B < W.heap.size
theorem ZB.new (w : World) (t : TypeId) : ZB (w.alloc (.cells #[.slice none 0 0, .slice none 0 0] t)) w.heap.size := ⟨by simp, by simp, by simp, by simp, by simp⟩
theorem ZB.q {W W' : World} {B : Nat} (h : ZB W B) (q : Q W W') : ZB W' B :=
  ⟨(q.cell (p := ⟨B, 0, none⟩) h.lt).trans h.c0, (q.cell (p := ⟨B, 1, none⟩) h.lt).trans h.c1, (q.frozen (p := ⟨B, 0, none⟩) h.lt).trans h.f0, (q.frozen (p := ⟨B, 1, none⟩) h.lt).trans h.f1, Nat.lt_of_lt_of_le h.lt q.size⟩
/-- ahead of a Put: the old table in its box, the row of keys with the new one -/
structure Mid (w wm : World) (base tb : Nat) (l K : List (List Int)) (k : Nat) (Af : Option Addr) (cf : Nat) (a b : Value) (VS : List Value) : Prop where
  fs : K = firstL l (k + 1)
  box : TB wm tb a b
  own : wm.ownsRow base 23 1 (.slice Af K.length cf) K.length VS
  vl : VS.length = K.length
  vals : Vals w K VS
  one : ∀ u ∈ VS, u.oneCell' = true
  tbl : tb < base ∧ base ≤ wm.heap.size ∧ w.heap.size ≤ tb
  q : Q w wm
theorem Mid.st {w wm wc : World} {base tb k cf c3 d3 ub : Nat} {l K : List (List Int)} {Af A3 S3 : Option Addr} {a b : Value} {VS : List Value} (h : Mid w wm base tb l K k Af cf a b VS) (q : Q wm wc)
    (hX : ∀ X : World, (∀ p : Addr, wm.heap.size ≤ p.block → p.block ≠ ub → p.block < wc.heap.size → X.cell? p = wc.cell? p) → Keys X wc.heap.size A3 K ∧ Ints X wc.heap.size S3 (layI K)) :
    St w ((wc.setCell ⟨tb, 0, none⟩ (.slice A3 K.length c3)).setCell ⟨tb, 1, none⟩ (.slice S3 (layI K).length d3)) base tb l K (k + 1) Af cf A3 c3 S3 d3 wm.heap.size VS := by
  obtain ⟨t1, t2, t3⟩ := h.tbl
  have hz : ((wc.setCell ⟨tb, 0, none⟩ (.slice A3 K.length c3)).setCell ⟨tb, 1, none⟩ (.slice S3 (layI K).length d3)).heap.size = wc.heap.size := by simp [World.setCell]
  have hzq := q.size
  have ho : ∀ p : Addr, p.block ≠ tb → ((wc.setCell ⟨tb, 0, none⟩ (.slice A3 K.length c3)).setCell ⟨tb, 1, none⟩ (.slice S3 (layI K).length d3)).cell? p = wc.cell? p := fun p hp => set_two_other _ _ _ _ _ hp
  refine ⟨h.fs, (h.box.q q).set _ _, own_set (own_set (own_q h.own q) (a := ⟨tb, 0, none⟩) t1 _) (a := ⟨tb, 1, none⟩) t1 _, h.vl, h.vals, h.one, fun X hXX => ?_, fun b hb => (h.own.lt b hb).2, by omega, ((h.q.trans q).setCell (p := ⟨tb, 0, none⟩) t3 _).setCell (p := ⟨tb, 1, none⟩) t3 _⟩
  rw [hz] at hXX ⊢
  exact hX X fun p h1 _ h3 => (hXX p (by omega) (.inr h1) h3).trans (ho p (by omega))
theorem two_cells {W : World} {B : Nat} {a b u v : Value} (c0 : W.cell? ⟨B, 0, none⟩ = some a) (c1 : W.cell? ⟨B, 1, none⟩ = some b) : ((W.setCell ⟨B, 0, none⟩ u).setCell ⟨B, 1, none⟩ v).cell? ⟨B, 0, none⟩ = some u ∧ ((W.setCell ⟨B, 0, none⟩ u).setCell ⟨B, 1, none⟩ v).cell? ⟨B, 1, none⟩ = some v := by
  have e0 := World.cell?_setCell_other (w := W.setCell ⟨B, 0, none⟩ u) (a := ⟨B, 1, none⟩) (b := ⟨B, 0, none⟩) (v := v) (by intro h; injection h with _ h; cases h)
  have e1 := World.cell?_setCell_other (w := W) (a := ⟨B, 0, none⟩) (b := ⟨B, 1, none⟩) (v := u) (by intro h; injection h with _ h; cases h)
  exact ⟨e0.trans (World.cell?_setCell_same' _ _ _ (by rw [c0]; rfl)), World.cell?_setCell_same' _ _ _ (by rw [e1, c1]; rfl)⟩
theorem two_q {wr w3 : World} (p : Q wr w3) (a b : Value) : Q wr ((w3.setCell ⟨wr.heap.size, 0, none⟩ a).setCell ⟨wr.heap.size, 1, none⟩ b) :=
  (p.setCell (p := ⟨wr.heap.size, 0, none⟩) (Nat.le_refl _) _).setCell (p := ⟨wr.heap.size, 1, none⟩) (Nat.le_refl _) _
/-- the table's memory, where u's box was laid behind the call .. -/
theorem tab_c {wm w3 : World} {K : List (List Int)} {A3 S3 : Option Addr} {o : Obj} (hF : ∀ W : World, (∀ p : Addr, wm.heap.size ≤ p.block → p.block < w3.heap.size → W.cell? p = w3.cell? p) → Keys W w3.heap.size A3 K ∧ Ints W w3.heap.size S3 (layI K)) :
    ∀ X : World, (∀ p : Addr, wm.heap.size ≤ p.block → p.block ≠ w3.heap.size → p.block < (w3.alloc o).heap.size → X.cell? p = (w3.alloc o).cell? p) → Keys X (w3.alloc o).heap.size A3 K ∧ Ints X (w3.alloc o).heap.size S3 (layI K) := fun X hX => by
  have qa := (Q.refl w3).alloc o
  have := hF X fun p h1 h2 => (hX p h1 (by omega) (by have := qa.size; omega)).trans (qa.cell h2)
  exact ⟨this.1.more qa.size, this.2.more qa.size⟩
/-- .. and ahead of it -/
theorem tab_a {wm w3 : World} {K : List (List Int)} {A3 S3 : Option Addr} {n : Nat} {u v : Value} (hn : n = wm.heap.size + 1) (hF : ∀ W : World, (∀ p : Addr, n ≤ p.block → p.block < w3.heap.size → W.cell? p = w3.cell? p) → Keys W w3.heap.size A3 K ∧ Ints W w3.heap.size S3 (layI K)) :
    ∀ X : World, (∀ p : Addr, wm.heap.size ≤ p.block → p.block ≠ wm.heap.size → p.block < ((w3.setCell ⟨wm.heap.size, 0, none⟩ u).setCell ⟨wm.heap.size, 1, none⟩ v).heap.size → X.cell? p = ((w3.setCell ⟨wm.heap.size, 0, none⟩ u).setCell ⟨wm.heap.size, 1, none⟩ v).cell? p) →
      Keys X ((w3.setCell ⟨wm.heap.size, 0, none⟩ u).setCell ⟨wm.heap.size, 1, none⟩ v).heap.size A3 K ∧ Ints X ((w3.setCell ⟨wm.heap.size, 0, none⟩ u).setCell ⟨wm.heap.size, 1, none⟩ v).heap.size S3 (layI K) := fun X hX => by
  have hz : ((w3.setCell ⟨wm.heap.size, 0, none⟩ u).setCell ⟨wm.heap.size, 1, none⟩ v).heap.size = w3.heap.size := by simp [World.setCell]
  rw [hz] at hX ⊢
  exact hF X fun p h1 h2 => (hX p (by omega) (by omega) h2).trans (set_two_other _ _ _ _ _ (by omega))

theorem mid_below {w wr1 wm : World} {base tb k cf lo c d : Nat} {l F : List (List Int)} {Af A S : Option Addr} {VS : List Value} {o : Obj} (h : St w wr1 base tb l F k Af cf A c S d lo VS) (gr : (wr1.alloc o).grownBy wm (Value.slice Af F.length cf).ownBlock) : Below base wr1 wm := by
  have hb : base ≤ wr1.heap.size := by have := h.tbl; omega
  exact ((Below.refl base wr1).alloc hb o).grown gr (by simp; omega) (fun b hb => (h.own.lt b hb).1)
theorem mid_new {w wr1 wm : World} {base tb k cf cf' lo c d c1 : Nat} {l F K : List (List Int)} {key : List Int} {Af Af' A S a : Option Addr} {VS : List Value} {o : Obj} (h : St w wr1 base tb l F k Af cf A c S d lo VS) (hK : F ++ [key] = K) (_hKl : F.length + 1 = K.length) (hf : K = firstL l (k + 1)) (hi : Ints w w.heap.size a key) (hle : key.length ≤ c1)
    (own : wm.ownsRow base 23 1 (.slice Af' K.length cf') K.length (VS ++ [.slice a key.length c1])) (gr : (wr1.alloc o).grownBy wm (Value.slice Af F.length cf).ownBlock) : Mid w wm base tb l K k Af' cf' (.slice A F.length c) (.slice S (layI F).length d) (VS ++ [.slice a key.length c1]) := by
  have hB := mid_below h gr
  obtain ⟨t1, t2, t3, t4⟩ := h.tbl
  have hz := hB.size
  refine ⟨hf, h.box.below t1 hB, own, by rw [← hK, List.length_append, List.length_append, h.vl]; rfl, ?_, fun u hu => ?_, by omega, Below.trans h.q (hB.mono (by omega))⟩
  · rw [← hK]; exact vals_snoc h.vl h.vals hle hi
  · rcases List.mem_append.1 hu with hu | hu
    · exact h.one u hu
    · rw [List.mem_singleton.1 hu]; rfl
theorem mid_tab {w wr1 wm : World} {base tb k cf lo c d : Nat} {l F : List (List Int)} {Af A S : Option Addr} {VS : List Value} {o : Obj} (h : St w wr1 base tb l F k Af cf A c S d lo VS) (gr : (wr1.alloc o).grownBy wm (Value.slice Af F.length cf).ownBlock) : Keys wm wm.heap.size A F ∧ Ints wm wm.heap.size S (layI F) := by
  have hB := mid_below h gr
  have qa := (Q.refl wr1).alloc o
  refine (h.tab.on hB.size fun p _ h1 h2 => ?_).self
  rcases h1 with h1 | h1
  · exact hB.cell h1
  · refine (gr.cell_far p (by have := qa.size; omega) fun e => ?_).trans (qa.cell h2)
    have := h.low _ e.symm
    omega

set_option maxRecDepth 100000 in
set_option maxHeartbeats 40000000 in
theorem walk_in (A0 E : Option Addr) (c0 ce : Nat) (l : List (List Int)) (key : List Int) (w : World) (hk : Keys w w.heap.size A0 l) (he : Ints w w.heap.size E key) (hl : l.length ≤ 60) (hf : fewB l 0 = true) (hk1 : key.length ≤ 100) :
    Calls Try.prog 3 #[.slice A0 l.length c0, .slice E key.length ce] w fun e w' => e = .returned (.bool true) ∧ Q w w' := by
  have Hk := Lib.hid hk
  have He := Lib.hid he
  have hsum := few_sum hf
  have hs1 : ∀ k ∈ l, k.length ≤ 1152921504606846976 := fun k hk => by have := few_sum hf; have := mem_len hk; omega
  have hl' : ¬ (60 : Int) < (l.length : Int) := by omega
  have hk1' : ¬ (100 : Int) < (key.length : Int) := by omega
  have hmk : ∀ u : World, (Instr.makeSlice 23 (.int .i64 8) (.int .i64 8)).run Try.prog u = .ok (.slice (some ⟨u.heap.size, 0, none⟩) 8 8) (u.alloc (.cells (madeCells #[.int .i64 0] 8) 3)) := make_ints 8 (by omega)
  have Hfl : Hid (∀ k, k ≤ l.length → Dist (firstL l k) ∧ (firstL l k).length ≤ 60 ∧ (firstL l k).flatten.length ≤ 2000 ∧ ∀ x ∈ firstL l k, x.length ≤ maxLen) := fun k hk => by
    obtain ⟨h1, h2, h3⟩ := firstL_facts l k hk
    have := take_flat l k
    exact ⟨h1, by omega, by omega, fun x hx => by have := mem_len hx; unfold maxLen; omega⟩
  obtain ⟨i0, hi, hz0, hz1, hz2⟩ := info_parts sliceInfo
  have Hi := Lib.hid hi
  have Hz0 := Lib.hid hz0
  have Hz1 := Lib.hid hz1
  have Hz2 := Lib.hid hz2
  clear hi hz0 hz1 hz2 hk he
  go_enter Try.func3, Try.ntmps3
  go_wp2_with fail
  refine (shown_any _).mono ?_
  rintro e w1 ⟨rfl, q1⟩
  go_wp2_with fail
  refine (refFew_any _ _ _ _ _ _ l _ rfl ((Hk.out.q (Nat.le_refl _) q1).more q1.size) (by omega) hs1 (by omega)).mono ?_
  rintro e w2 ⟨rfl, q2⟩
  rw [hf]
  have q02 := q1.trans q2
  go_wp2_with fail
  clear hmk
  have HS0 := Lib.hid (st0 w w2 l q02)
  go_loopw [7, 8] (fun v i wr => ∃ (k : Nat) (Af : Option Addr) (cf : Nat) (F : List (List Int)) (A : Option Addr) (c : Nat) (S : Option Addr) (d lo : Nat) (VS : List Value), k ≤ l.length ∧ i = .int .i64 k ∧ v = .slice Af F.length cf ∧ Hid (St w wr (w2.heap.size + 2) (w2.heap.size + 1) l F k Af cf A c S d lo VS)) (fun _ i _ => l.length - (intOf i).toNat)
  case atStart => exact ⟨0, none, 0, [], none, 0, _, _, _, [], Nat.zero_le _, rfl, rfl, HS0⟩
  case round =>
    obtain ⟨k, Af, cf, F, A, c, S, d, lo, VS, hkl, rfl, rfl, HSt⟩ := hrel
    obtain ⟨hd, hF1, hF2, hF3⟩ := Hfl.out k hkl
    rw [← HSt.out.fs] at hd hF1 hF2 hF3
    have HF3 := Lib.hid hF3
    clear hF3 HS0
    by_cases hlt : k < l.length
    · obtain ⟨ad, rfl, hb, a, c1, hle, y0w, hiw⟩ := Hk.out.at_ hlt
      have Hiw := Lib.hid hiw
      have hgb : (ad.add k).block < w.heap.size := by rw [add_block]; exact hb
      have y0 := (HSt.out.q.cell hgb).trans y0w
      have j0 : (0 : Int) ≤ (k : Int) := Int.natCast_nonneg _
      have j1 : (k : Int) < (l.length : Int) := by omega
      have hlk : l[k].length ≤ 2000 := by have := mem_len (List.getElem_mem hlt); omega
      have hlm : l[k].length ≤ maxLen := by unfold maxLen; omega
      have HFs := Lib.hid (firstL_succ l k hlt)
      clear hiw
      by_cases hat : atI F l[k] < 0
      · have hat1 : atI F l[k] = -1 := by
          rcases atI_cases F l[k] with ⟨h1, _⟩ | ⟨i, _, h2⟩
          · exact h1
          · omega
        obtain ⟨K, hK⟩ : ∃ K, F ++ [l[k]] = K := ⟨_, rfl⟩
        have E1 : Hid (putL F l[k] = K) := by unfold Hid putL; rw [if_pos hat]; exact hK
        have E2 : Hid (placeI F l[k] = (F.length : Int)) := by unfold Hid placeI; rw [if_pos hat]
        have HKl : Hid (F.length + 1 = K.length) := by unfold Hid; rw [← hK]; simp
        have HKf : Hid (K = firstL l (k + 1)) := by unfold Hid; rw [HFs.out, ← HSt.out.fs, E1.out]
        have HKe := Lib.hid hK
        have Hat := Lib.hid hat1
        have hxx : ((F.length : Int) != (F.length : Int)) = false := by simp
        clear hK hat hat1
        go_wp2_with fail
        refine (refAt_any _ _ _ _ _ _ F l[k] _ rfl rfl (first_keys HSt.out.own HSt.out.vals HSt.out.q) ((Hiw.out.q (Nat.le_refl _) HSt.out.q).more HSt.out.q.size) (by unfold maxLen; omega) HF3.out).mono ?_
        rintro e wr1 ⟨rfl, hdr⟩
        rw [Hat.out]
        have q3 := Q.of_drewN hdr
        have HS1 := Lib.hid (HSt.out.qq q3)
        clear hdr y0
        have y0 := (HS1.out.q.cell hgb).trans y0w
        have Hsb := Lib.hid (src_block (heap_alloc_new wr1 (.cells #[.slice a l[k].length c1] 23)))
        have Hown := Lib.hid (HS1.out.own.alloc (.cells #[.slice a l[k].length c1] 23))
        have hbs : w2.heap.size + 2 ≤ wr1.heap.size := by have := HS1.out.tbl; omega
        go_wp2_with (at_builtin; refine wpList_append_src _ rfl (.tmp 47) (.tmp 52) _ rfl (w2.heap.size + 2) 23 i0 _ 1 24 Try.underlying22 Hi.out Hz0.out Hz1.out Hz2.out rfl (by omega) (.slice Af F.length cf) F.length VS rfl Hown.out (some ⟨wr1.heap.size, 0, none⟩) 1 1 [.slice a l[k].length c1] rfl rfl Hsb.out (by simp [Value.oneCell']) (by unfold maxLen; omega) (by omega) (by simp; omega) ?_; intro v4 wm own4 gr4 _; obtain ⟨Af', cf', hv4, _, _⟩ := own_form own4; rw [HKl.out] at hv4 own4; subst hv4; have HMid := Lib.hid (mid_new (VS := VS) HS1.out HKe.out HKl.out HKf.out Hiw.out hle own4 gr4); have HT1 := Lib.hid (mid_tab HS1.out gr4).1; have HT2 := Lib.hid (mid_tab HS1.out gr4).2; have y0' := (HMid.out.q.cell hgb).trans y0w; have b0' := HMid.out.box.c0; have b1' := HMid.out.box.c1; clear own4 gr4 y0)
        have HT3 := Lib.hid ((Hiw.out.q (Nat.le_refl _) HMid.out.q).more HMid.out.q.size)
        obtain ⟨VS', hVS'⟩ : ∃ VS', VS ++ [.slice a l[k].length c1] = VS' := ⟨_, rfl⟩
        rw [hVS'] at HMid
        clear hVS' y0' b0' b1'
        have b0 := HMid.out.box.c0
        have b1 := HMid.out.box.c1
        have g0 := HMid.out.box.f0
        have g1 := HMid.out.box.f1
        have hltb := HMid.out.box.lt
        have y0 := (HMid.out.q.cell hgb).trans y0w
        have hgb1 : (ad.add k).block < wm.heap.size := by have := HMid.out.q.size; omega
        have n1 : l[k].length ≤ 5000 := by omega
        have n2 : F.length ≤ 5000 := by omega
        have n3 : F.flatten.length ≤ 50000 := by omega
        go_upto_region 13 with fail
        go_region_held3 (fun w' => w'.cell? ⟨w2.heap.size + 1, 0, none⟩ = some (.slice A F.length c) ∧ w'.cell? ⟨w2.heap.size + 1, 1, none⟩ = some (.slice S (layI F).length d) ∧ w'.cell? (ad.add k) = some (.slice a l[k].length c1))
          (first
            | (with_reducible exact ⟨((two_q p3 _ _).cell (p := ⟨w2.heap.size + 1, 0, none⟩) hltb).trans b0, ((two_q p3 _ _).cell (p := ⟨w2.heap.size + 1, 1, none⟩) hltb).trans b1, ((two_q p3 _ _).cell (p := ad.add k) hgb1).trans y0⟩)
            | (with_reducible exact ⟨((p3.alloc _).cell (p := ⟨w2.heap.size + 1, 0, none⟩) hltb).trans b0, ((p3.alloc _).cell (p := ⟨w2.heap.size + 1, 1, none⟩) hltb).trans b1, ((p3.alloc _).cell (p := ad.add k) hgb1).trans y0⟩)
            | (with_reducible exact ⟨(p3.cell (p := ⟨w2.heap.size + 1, 0, none⟩) hltb).trans b0, (p3.cell (p := ⟨w2.heap.size + 1, 1, none⟩) hltb).trans b1, (p3.cell (p := ad.add k) hgb1).trans y0⟩)
            | go_keep)
          (first
            | (go_at_call 13; refine (putF_any A S a _ c _ d _ c1 F l[k] _ rfl rfl rfl (by first | exact HT1.out | exact (HT1.out.q (Nat.le_refl _) ((Q.refl wm).alloc _)).more (by simp)) (by first | exact HT2.out | exact (HT2.out.q (Nat.le_refl _) ((Q.refl wm).alloc _)).more (by simp)) (by first | exact HT3.out | exact (HT3.out.q (Nat.le_refl _) ((Q.refl wm).alloc _)).more (by simp)) hd HF3.out n1 n2 n3 hle).mono ?_; rintro e w3 ⟨A3, c3, S3, d3, rfl, hF, q4, _⟩; rw [E1.out, E2.out]; rw [E1.out] at hF; have HFF := Lib.hid hF; clear hF; have p3 : Q wm w3 := (by first | exact (Q.refl wm).drew.trans q4 | exact ((Q.refl wm).drew.alloc _).trans q4); (first | (have bx : ZB w3 wm.heap.size := (ZB.new wm.drew 27).q q4; have y1 := bx.c0; have y2 := bx.c1; have z1 := bx.f0; have z2 := bx.f1) | skip)))
        · have q5 := p3.alloc (Obj.cells #[.slice A3 K.length c3, .slice S3 (layI K).length d3] 27)
          have HB5 := Lib.hid (HMid.out.box.q q5)
          have HSt2 := Lib.hid (HMid.out.st (c3 := c3) (d3 := d3) q5 (tab_c HFF.out))
          have hub := BoxT.new w3 (.slice A3 K.length c3) (.slice S3 (layI K).length d3) 27
          have u0 := hub.c0
          have u1 := hub.c1
          clear b0 b1 g0 g1 y0 hub q4 p3 q5 HFF
          generalize w3.alloc (Obj.cells #[.slice A3 K.length c3, .slice S3 (layI K).length d3] 27) = W5 at *
          have b0 := HB5.out.c0
          have b1 := HB5.out.c1
          have g0 := HB5.out.f0
          have g1 := HB5.out.f1
          go_wp2_with fail
          go_roundw
          case rel => exact ⟨k + 1, Af', cf', K, A3, c3, S3, d3, _, VS', by omega, by go_num, rfl, HSt2⟩
          case measure => simp [intOf]; omega
        · have q5 := (p3.setCell (p := ⟨wm.heap.size, 0, none⟩) (Nat.le_refl _) (.slice A3 K.length c3)).setCell (p := ⟨wm.heap.size, 1, none⟩) (Nat.le_refl _) (.slice S3 (layI K).length d3)
          have HB5 := Lib.hid (HMid.out.box.q q5)
          have HSt2 := Lib.hid (HMid.out.st (c3 := c3) (d3 := d3) q5 (tab_a (by simp) HFF.out))
          have hub := two_cells (u := .slice A3 K.length c3) (v := .slice S3 (layI K).length d3) y1 y2
          have u0 := hub.1
          have u1 := hub.2
          clear b0 b1 g0 g1 y0 hub y1 y2 z1 z2 q4 p3 q5 HFF bx
          generalize (w3.setCell ⟨wm.heap.size, 0, none⟩ (.slice A3 K.length c3)).setCell ⟨wm.heap.size, 1, none⟩ (.slice S3 (layI K).length d3) = W5 at *
          have b0 := HB5.out.c0
          have b1 := HB5.out.c1
          have g0 := HB5.out.f0
          have g1 := HB5.out.f1
          go_wp2_with fail
          go_roundw
          case rel => exact ⟨k + 1, Af', cf', K, A3, c3, S3, d3, _, VS', by omega, by go_num, rfl, HSt2⟩
          case measure => simp [intOf]; omega
      · have e1 : putL F l[k] = F := by unfold putL; rw [if_neg hat]
        obtain ⟨X, hX⟩ : ∃ X, atI F l[k] = X := ⟨_, rfl⟩
        have e2 : placeI F l[k] = X := by unfold placeI; rw [if_neg hat]; exact hX
        have E1 := Lib.hid e1
        have E2 := Lib.hid e2
        have HX := Lib.hid hX
        have HKf : Hid (F = firstL l (k + 1)) := by unfold Hid; rw [HFs.out, ← HSt.out.fs, e1]
        rw [hX] at hat
        have hxx : (X != X) = false := by simp
        clear e1 e2 hX
        go_wp2_with fail
        refine (refAt_any _ _ _ _ _ _ F l[k] _ rfl rfl (first_keys HSt.out.own HSt.out.vals HSt.out.q) ((Hiw.out.q (Nat.le_refl _) HSt.out.q).more HSt.out.q.size) (by unfold maxLen; omega) HF3.out).mono ?_
        rintro e wm ⟨rfl, hdr⟩
        rw [HX.out]
        have q3 := Q.of_drewN hdr
        have HS1 := Lib.hid (HSt.out.qq q3)
        have HT1 := Lib.hid HS1.out.tab.self.1
        have HT2 := Lib.hid HS1.out.tab.self.2
        have HT3 := Lib.hid ((Hiw.out.q (Nat.le_refl _) HS1.out.q).more HS1.out.q.size)
        have HMid : Hid (Mid w wm (w2.heap.size + 2) (w2.heap.size + 1) l F k Af cf (.slice A F.length c) (.slice S (layI F).length d) VS) := ⟨HKf.out, HS1.out.box, HS1.out.own, HS1.out.vl, HS1.out.vals, HS1.out.one, by have := HS1.out.tbl; omega, HS1.out.q⟩
        clear hdr y0
        have b0 := HMid.out.box.c0
        have b1 := HMid.out.box.c1
        have g0 := HMid.out.box.f0
        have g1 := HMid.out.box.f1
        have hltb := HMid.out.box.lt
        have y0 := (HMid.out.q.cell hgb).trans y0w
        have hgb1 : (ad.add k).block < wm.heap.size := by have := HMid.out.q.size; omega
        have n1 : l[k].length ≤ 5000 := by omega
        have n2 : F.length ≤ 5000 := by omega
        have n3 : F.flatten.length ≤ 50000 := by omega
        go_upto_region 13 with fail
        go_region_held3 (fun w' => w'.cell? ⟨w2.heap.size + 1, 0, none⟩ = some (.slice A F.length c) ∧ w'.cell? ⟨w2.heap.size + 1, 1, none⟩ = some (.slice S (layI F).length d) ∧ w'.cell? (ad.add k) = some (.slice a l[k].length c1))
          (first
            | (with_reducible exact ⟨((two_q p3 _ _).cell (p := ⟨w2.heap.size + 1, 0, none⟩) hltb).trans b0, ((two_q p3 _ _).cell (p := ⟨w2.heap.size + 1, 1, none⟩) hltb).trans b1, ((two_q p3 _ _).cell (p := ad.add k) hgb1).trans y0⟩)
            | (with_reducible exact ⟨((p3.alloc _).cell (p := ⟨w2.heap.size + 1, 0, none⟩) hltb).trans b0, ((p3.alloc _).cell (p := ⟨w2.heap.size + 1, 1, none⟩) hltb).trans b1, ((p3.alloc _).cell (p := ad.add k) hgb1).trans y0⟩)
            | (with_reducible exact ⟨(p3.cell (p := ⟨w2.heap.size + 1, 0, none⟩) hltb).trans b0, (p3.cell (p := ⟨w2.heap.size + 1, 1, none⟩) hltb).trans b1, (p3.cell (p := ad.add k) hgb1).trans y0⟩)
            | go_keep)
          (first
            | (go_at_call 13; refine (putF_any A S a _ c _ d _ c1 F l[k] _ rfl rfl rfl (by first | exact HT1.out | exact (HT1.out.q (Nat.le_refl _) ((Q.refl wm).alloc _)).more (by simp)) (by first | exact HT2.out | exact (HT2.out.q (Nat.le_refl _) ((Q.refl wm).alloc _)).more (by simp)) (by first | exact HT3.out | exact (HT3.out.q (Nat.le_refl _) ((Q.refl wm).alloc _)).more (by simp)) hd HF3.out n1 n2 n3 hle).mono ?_; rintro e w3 ⟨A3, c3, S3, d3, rfl, hF, q4, _⟩; rw [E1.out, E2.out]; rw [E1.out] at hF; have HFF := Lib.hid hF; clear hF; have p3 : Q wm w3 := (by first | exact (Q.refl wm).drew.trans q4 | exact ((Q.refl wm).drew.alloc _).trans q4); (first | (have bx : ZB w3 wm.heap.size := (ZB.new wm.drew 27).q q4; have y1 := bx.c0; have y2 := bx.c1; have z1 := bx.f0; have z2 := bx.f1) | skip)))
        · have q5 := p3.alloc (Obj.cells #[.slice A3 F.length c3, .slice S3 (layI F).length d3] 27)
          have HB5 := Lib.hid (HMid.out.box.q q5)
          have HSt2 := Lib.hid (HMid.out.st (c3 := c3) (d3 := d3) q5 (tab_c HFF.out))
          have hub := BoxT.new w3 (.slice A3 F.length c3) (.slice S3 (layI F).length d3) 27
          have u0 := hub.c0
          have u1 := hub.c1
          clear b0 b1 g0 g1 y0 hub q4 p3 q5 HFF
          generalize w3.alloc (Obj.cells #[.slice A3 F.length c3, .slice S3 (layI F).length d3] 27) = W5 at *
          have b0 := HB5.out.c0
          have b1 := HB5.out.c1
          have g0 := HB5.out.f0
          have g1 := HB5.out.f1
          go_wp2_with fail
          go_roundw
          case rel => exact ⟨k + 1, Af, cf, F, A3, c3, S3, d3, _, VS, by omega, by go_num, rfl, HSt2⟩
          case measure => simp [intOf]; omega
        · have q5 := (p3.setCell (p := ⟨wm.heap.size, 0, none⟩) (Nat.le_refl _) (.slice A3 F.length c3)).setCell (p := ⟨wm.heap.size, 1, none⟩) (Nat.le_refl _) (.slice S3 (layI F).length d3)
          have HB5 := Lib.hid (HMid.out.box.q q5)
          have HSt2 := Lib.hid (HMid.out.st (c3 := c3) (d3 := d3) q5 (tab_a (by simp) HFF.out))
          have hub := two_cells (u := .slice A3 F.length c3) (v := .slice S3 (layI F).length d3) y1 y2
          have u0 := hub.1
          have u1 := hub.2
          clear b0 b1 g0 g1 y0 hub y1 y2 z1 z2 q4 p3 q5 HFF bx
          generalize (w3.setCell ⟨wm.heap.size, 0, none⟩ (.slice A3 F.length c3)).setCell ⟨wm.heap.size, 1, none⟩ (.slice S3 (layI F).length d3) = W5 at *
          have b0 := HB5.out.c0
          have b1 := HB5.out.c1
          have g0 := HB5.out.f0
          have g1 := HB5.out.f1
          go_wp2_with fail
          go_roundw
          case rel => exact ⟨k + 1, Af, cf, F, A3, c3, S3, d3, _, VS, by omega, by go_num, rfl, HSt2⟩
          case measure => simp [intOf]; omega
    · obtain rfl : k = l.length := by omega
      have HKw := Lib.hid (first_keys HSt.out.own HSt.out.vals HSt.out.q)
      have HT1 := Lib.hid HSt.out.tab.self.1
      have HT2 := Lib.hid HSt.out.tab.self.2
      have He3 := Lib.hid ((He.out.q (Nat.le_refl _) HSt.out.q).more HSt.out.q.size)
      have b0 := HSt.out.box.c0
      have b1 := HSt.out.box.c1
      have hltb := HSt.out.box.lt
      have qw := HSt.out.q
      have HRr : Hid (rowsB F F = true) := (rowsB_iff F F).2 rfl
      have HEe : Hid (eqL (layI F) (layI F) = true) := (eqL_iff _ _).2 rfl
      obtain ⟨X, hX⟩ : ∃ X, atI F key = X := ⟨_, rfl⟩
      have HX := Lib.hid hX
      have hxx : (X == X) = true := by simp
      have Hls : Hid (sizeN F.length = (layI F).length) := Lib.hid (layI_length F).symm
      have Hz : Hid ((layI F).length ≤ maxLen) := by unfold Hid; rw [layI_length]; have := sizeN_le F.length; unfold maxLen; omega
      clear hX
      go_wp2_with fail
      go_region_held3 (fun w' => w'.cell? ⟨w2.heap.size + 1, 0, none⟩ = some (.slice A F.length c) ∧ w'.cell? ⟨w2.heap.size + 1, 1, none⟩ = some (.slice S (layI F).length d))
        (first
          | go_keep
          | exact ⟨(p7.cell (p := ⟨w2.heap.size + 1, 0, none⟩) hltb).trans b0, (p7.cell (p := ⟨w2.heap.size + 1, 1, none⟩) hltb).trans b1⟩
          | exact ⟨(p6.cell (p := ⟨w2.heap.size + 1, 0, none⟩) hltb).trans b0, (p6.cell (p := ⟨w2.heap.size + 1, 1, none⟩) hltb).trans b1⟩
          | exact ⟨(p5.cell (p := ⟨w2.heap.size + 1, 0, none⟩) hltb).trans b0, (p5.cell (p := ⟨w2.heap.size + 1, 1, none⟩) hltb).trans b1⟩
          | exact ⟨(p4.cell (p := ⟨w2.heap.size + 1, 0, none⟩) hltb).trans b0, (p4.cell (p := ⟨w2.heap.size + 1, 1, none⟩) hltb).trans b1⟩
          | exact ⟨(p3.cell (p := ⟨w2.heap.size + 1, 0, none⟩) hltb).trans b0, (p3.cell (p := ⟨w2.heap.size + 1, 1, none⟩) hltb).trans b1⟩)
        (first
          | (go_at_call 14; refine (refRows_any _ _ _ _ _ _ F F _ rfl rfl (by exact HT1.out) (by exact HKw.out) (by unfold maxLen; omega) HF3.out).mono ?_; rintro e w3 ⟨rfl, hd3⟩; have q3 := Q.of_drewN hd3; clear hd3; rw [HRr.out]; have p3 := (Q.refl wr).drew.trans q3)
          | (go_at_call 16; refine (lay_any _ _ _ F _ rfl (by exact ((HKw.out.q (Nat.le_refl _) p3).more p3.size)) (by omega) HF3.out).mono ?_; rintro e w4 ⟨g4, rfl, hg4, hO4, q4⟩; have HO4 := Lib.hid hO4; clear hO4; have p4 := p3.trans q4)
          | (go_at_call 15; refine (refInts_any _ _ _ _ _ _ (layI F) (layI F) _ rfl Hls.out (by exact ((HT2.out.q (Nat.le_refl _) p4).more p4.size)) (by exact HO4.out.ints) Hz.out).mono ?_; rintro e w5 ⟨rfl, hd5⟩; have q5 := Q.of_drewN hd5; clear hd5; rw [HEe.out]; have p5 := p4.trans q5)
          | (go_at_call 17; refine (findR_any _ _ _ _ _ _ _ _ _ F key _ rfl rfl rfl (by exact ((HT1.out.q (Nat.le_refl _) p5).more p5.size)) (by exact ((HT2.out.q (Nat.le_refl _) p5).more p5.size)) (by exact ((He3.out.q (Nat.le_refl _) p5).more p5.size)) hd HF3.out (by unfold maxLen; omega) (by omega)).mono ?_; rintro e w6 ⟨rfl, q6⟩; rw [HX.out]; have p6 := p5.trans q6)
          | (go_at_call 12; refine (refAt_any _ _ _ _ _ _ F key _ rfl rfl (by exact ((HKw.out.q (Nat.le_refl _) p6).more p6.size)) (by exact ((He3.out.q (Nat.le_refl _) p6).more p6.size)) (by unfold maxLen; omega) HF3.out).mono ?_; rintro e w7 ⟨rfl, hd7⟩; have q7 := Q.of_drewN hd7; clear hd7; rw [HX.out]; have p7 := p6.trans q7))
      go_wp2_with fail
      go_ret
      exact ⟨rfl, qw.trans p7⟩

set_option maxRecDepth 100000 in
set_option maxHeartbeats 1000000 in
theorem walk (A0 E : Option Addr) (n c0 m ce : Nat) (l : List (List Int)) (key : List Int) (w : World) (hn : n = l.length) (hm : m = key.length) (hk : Keys w w.heap.size A0 l) (he : Ints w w.heap.size E key) (hl : l.length ≤ 1152921504606846976) (hs : ∀ k ∈ l, k.length ≤ 1152921504606846976) :
    Calls Try.prog 3 #[.slice A0 n c0, .slice E m ce] w fun e w' => e = .returned (.bool true) ∧ Q w w' := by
  subst hn
  subst hm
  by_cases h2 : 60 < l.length
  · have h2' : (60 : Int) < (l.length : Int) := by omega
    go_enter Try.func3, Try.ntmps3
    go_wp2_with fail
    refine (shown_any _).mono ?_
    rintro e w1 ⟨rfl, q1⟩
    go_wp2_with fail
    go_ret
    exact ⟨rfl, q1⟩
  · have h2' : ¬ (60 : Int) < (l.length : Int) := by omega
    cases hf : fewB l 0
    · go_enter Try.func3, Try.ntmps3
      go_wp2_with fail
      refine (shown_any _).mono ?_
      rintro e w1 ⟨rfl, q1⟩
      go_wp2_with fail
      refine (refFew_any _ _ _ _ _ _ l _ rfl ((hk.q (Nat.le_refl _) q1).more q1.size) hl hs (by omega)).mono ?_
      rintro e w2 ⟨rfl, q2⟩
      rw [hf]
      go_wp2_with fail
      go_ret
      exact ⟨rfl, q1.trans q2⟩
    · by_cases h3 : 100 < key.length
      · have h3' : (100 : Int) < (key.length : Int) := by omega
        go_enter Try.func3, Try.ntmps3
        go_wp2_with fail
        refine (shown_any _).mono ?_
        rintro e w1 ⟨rfl, q1⟩
        go_wp2_with fail
        refine (refFew_any _ _ _ _ _ _ l _ rfl ((hk.q (Nat.le_refl _) q1).more q1.size) hl hs (by omega)).mono ?_
        rintro e w2 ⟨rfl, q2⟩
        rw [hf]
        go_wp2_with fail
        go_ret
        exact ⟨rfl, q1.trans q2⟩
      · exact walk_in A0 E c0 ce l key w hk he (by omega) hf (by omega)

set_option maxRecDepth 100000 in
theorem lifted (os : Os) (started : os.Started) (H : Type) (enc : TypeId × Value → H) :
    ReturnsInHanded {} Try.checked os 3 .any (Rows.hashManySpec.pre6 enc Try.prog Try.f3 Rows.hashManyRow.domain false) (Rows.hashManySpec.post enc Try.prog Try.f3 false true false false) := by
  refine returnsInHanded_of_change_sized (C := Try.checked) own started (by kernel_rfl) Try.func3
    (ChangeSpec.witness6 (enc := enc) (C := Try.checked) false ⟨#[], #[.slice none 0 0, .slice none 0 0], []⟩ 8 (by kernel_rfl) (by kernel_rfl) (by kernel_rfl) (by kernel_rfl)) ?_
  intro W base args ds gs before hval0 hW hcnd hsz0 _
  have hval : ∀ (j : Nat) t v, Try.f3.params[j]? = some t → args[j]? = some v → Value.okWide Try.prog W .any base t v := hval0
  have hW' := hW
  obtain ⟨p, q, hA0, hV, rfl, hfz, hnd⟩ := hW
  have hA : DataW.TrodAll enc Try.prog W 0 (fun _ => true) true Try.f3.params.toList args.toList ds p := hA0
  rw [Try.params3] at hA hval
  obtain ⟨v0, vs0, d0, ds0, p0, q0, hargs, rfl, rfl, h0, r0⟩ := trodAll_cons hA
  obtain ⟨v1, vs1, d1, ds1, p1, q1, rfl, rfl, rfl, h1, r1⟩ := trodAll_cons r0
  obtain ⟨rfl, rfl, rfl⟩ := trodAll_nil r1
  obtain rfl : args = #[v0, v1] := by cases args; simp_all
  obtain ⟨rfl, rfl⟩ := trodVars_none hV
  have z0 : ∀ n ∈ d0.weights Try.prog 22, n ≤ reachBytes := fun n hn => by
    have := List.all_eq_true.1 hsz0 n (DataW.weights_mem_each (j := 0) (t := 22) (d := d0) (by rw [Try.params3]; rfl) rfl n hn)
    simpa using this
  have z1 : ∀ n ∈ d1.weights Try.prog 23, n ≤ reachBytes := fun n hn => by
    have := List.all_eq_true.1 hsz0 n (DataW.weights_mem_each (j := 1) (t := 23) (d := d1) (by rw [Try.params3]; rfl) rfl n hn)
    simpa using this
  obtain ⟨A0, n, c0, l, rfl, hn, hk, hl, hs⟩ := open_rows (hval 0 22 v0 rfl rfl) h0 z0
  obtain ⟨E, m, ce, key, rfl, hm, _, he, _⟩ := open_key (hval 1 23 v1 rfl rfl) h1 z1
  clear hA0 hval0
  refine (walk A0 E n c0 m ce l key W hn hm hk he hl hs).mono fun e W' ⟨he, hg⟩ => ?_
  subst he
  exact ⟨_, rfl, post_law laid (by rw [Try.params3]; decide +kernel) rfl rfl (by kernel_rfl) Try.underlying4 hW' hg⟩

/-- THE STATEMENT -/
theorem proved : Rows.HashManySaid :=
  OpenClaim.holds_of_wide 3 Try.f3 rfl rfl rfl rfl rfl rfl rfl ⟨rfl, rfl, rfl, rfl, rfl⟩ rfl rfl rfl rfl rfl (by kernel_rfl) Try.func3 (by kernel_rfl)
    (of_decide_eq_true (by kernel_rfl)) (by unfold Func.isWrapper; first | (rw [if_pos (by decide +kernel)]; kernel_rfl) | (rw [if_neg (by decide +kernel)]; exact ⟨rfl, rfl⟩))
    (fun os started H enc _ => lifted os started H enc)
end Go.Proofs.Ytdedlkeeifgajaa.hashMany
