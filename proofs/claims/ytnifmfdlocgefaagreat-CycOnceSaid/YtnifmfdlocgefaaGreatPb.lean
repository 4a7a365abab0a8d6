/-
  What the proofs lean on, part 2 of 20.
-/
import Derived.Test.YtnifmfdlocgefaaGreatPa
import Derived.Deep.RegionHeld3
import Derived.Deep.Matrix
import Derived.Deep.SlicePairs
import Derived.Lib.SmallJoins
import Derived.SizedLaws
namespace Go.Proofs.YtnifmfdlocgefaaGreat.Hs
open Go.RowKit Kit

/-- 'append' within the capacity, from a source that may be nil -/
theorem wpList_append_room {P : Program} (w : World) {ops : Array Oper} {rest : List Oper} {o : Oper} {a : Act} {R : Exit → Act → World → Prop}
    (hg : o.guard = none) (s x : Operand) (t : TypeId) (hop : o.op = Op.call { callee := Callee.builtin Builtin.append, args := #[s, x], argTypes := #[t, t] })
    (base : Nat) (e : TypeId) (i : TypeInfo) (h1 : P.underlying t = some (.slice e)) (h2 : P.info? e = some i) (h4 : i.size = 1)
    (g k cap : Nat) (xs : List Value) (hs : a.eval s = .slice (some ⟨g, 0, none⟩) k cap) (hown : w.ownsRow base e 1 (.slice (some ⟨g, 0, none⟩) k cap) k xs) (A : Option Addr) (m c : Nat) (news : List Value) (hx : a.eval x = .slice A m c) (hn : news.length = m)
    (hc : Src w A news) (h1c : ∀ u ∈ news, u.oneCell' = true) (b1 : k + m ≤ cap)
    (hK : ∀ w', w'.ownsRow base e 1 (.slice (some ⟨g, 0, none⟩) (k + m) cap) (k + m) (xs ++ news) → w.grownBy w' (some g) → wpList P ops R rest (a.put o.dst (.slice (some ⟨g, 0, none⟩) (k + m) cap)) w') :
    wpList P ops R (o :: rest) a w := by
  cases A with
  | none =>
    have h0 : ¬ 0 < news.length := fun h => by obtain ⟨ad, e, _⟩ := hc h; cases e
    obtain rfl : news = [] := List.eq_nil_of_length_eq_zero (by omega)
    have hm : m = 0 := by simpa using hn.symm
    subst hm
    have hrun := run_append_none (P := P) w base t o.type e i 1 h1 h2 _ k xs hown c
    refine wpList_plain hg fun K hK' => ?_
    unfold Oper.wp
    simp [execOp, hop, resolve, invoke, builtin, hs, hx, hrun, Result.andThen]
    exact hK' _ _ (hK w (by simpa using hown) (World.grownBy.refl w _))
  | some ad =>
    refine wpList_append_fits w hg s x t hop base e i 1 h1 h2 h4 g k cap xs hs hown ad m c news hx (by simpa using hn) (fun j u hu => ?_) h1c b1 hK
    have hj := (List.getElem?_eq_some_iff.1 hu).1
    obtain ⟨ad', e', h⟩ := hc (by omega)
    injection e' with e'
    subst e'
    exact h j u hu
/-- where a row begins -/
def off (K : List (List Int)) (d : Nat) : Nat := (K.take d).flatten.length
theorem off_succ {K : List (List Int)} {d : Nat} {k : List Int} (h : K[d]? = some k) : off K (d + 1) = off K d + k.length := by
  obtain ⟨hd, rfl⟩ := List.getElem?_eq_some_iff.1 h
  unfold off
  rw [List.take_succ_eq_append_getElem hd, List.flatten_append, List.length_append]
  simp
theorem off_le (K : List (List Int)) (d : Nat) : off K d ≤ K.flatten.length := by
  unfold off
  have : K.flatten = (K.take d).flatten ++ (K.drop d).flatten := by rw [← List.flatten_append, List.take_append_drop]
  rw [this, List.length_append]
  omega
theorem flat_at {K : List (List Int)} {d j : Nat} {k : List Int} (h : K[d]? = some k) (hj : j < k.length) : K.flatten[off K d + j]? = some k[j] := by
  obtain ⟨hd, rfl⟩ := List.getElem?_eq_some_iff.1 h
  have : K.flatten = (K.take d).flatten ++ (K[d] ++ (K.drop (d + 1)).flatten) := by
    rw [← List.flatten_cons, ← List.drop_eq_getElem_cons hd, ← List.flatten_append, List.take_append_drop]
  rw [this]
  unfold off
  rw [List.getElem?_append_right (by omega), Nat.add_sub_cancel_left, List.getElem?_append_left hj, List.getElem?_eq_getElem hj]
def rowAt (gr : Nat) (K : List (List Int)) (i : Nat) : Value := .slice (cutAt (some ⟨gr, 0, none⟩) (off K (i + 1)) (off K i)) (K.getD i []).length (K.getD i []).length
def rowsL (gr : Nat) (K : List (List Int)) (d : Nat) : List Value := (List.range d).map (rowAt gr K)
theorem rowsL_succ (gr : Nat) (K : List (List Int)) (d : Nat) : rowsL gr K (d + 1) = rowsL gr K d ++ [rowAt gr K d] := by
  unfold rowsL
  rw [List.range_succ, List.map_append]; rfl
/-- what is made of rows -/
theorem rows_keys {W wE : World} {lo : Nat} {K : List (List Int)} {go gr N T : Nat} (hO : wE.ownsRow lo 24 1 (.slice (some ⟨go, 0, none⟩) K.length N) K.length (rowsL gr K K.length)) (hR : wE.ownsRow lo 3 1 (.slice (some ⟨gr, 0, none⟩) (off K K.length) T) (off K K.length) (cellsI (K.take K.length).flatten))
    (hW : ∀ p : Addr, lo ≤ p.block → p.block < wE.heap.size → W.cell? p = wE.cell? p) : Keys W wE.heap.size (some ⟨go, 0, none⟩) K := fun _ => by
  have l1 := hO.lt go rfl
  have l2 := hR.lt gr rfl
  refine ⟨_, rfl, l1.2, fun i k hk => ?_⟩
  obtain ⟨hi, hki⟩ := List.getElem?_eq_some_iff.1 hk
  have e0 : K.getD i [] = k := by rw [List.getD_eq_getElem?_getD, hk]; rfl
  have e1 : (rowsL gr K K.length)[i]? = some (rowAt gr K i) := by
    unfold rowsL
    rw [List.getElem?_map, List.getElem?_range hi]; rfl
  have c0 := hO.cells rfl i _ e1
  refine ⟨cutAt (some ⟨gr, 0, none⟩) (off K (i + 1)) (off K i), k.length, Nat.le_refl _, ?_, fun h0 => ?_⟩
  · rw [hW _ (by rw [add_block]; exact l1.1) (by rw [add_block]; exact l1.2), c0]
    unfold rowAt
    rw [e0]
  · have hs := off_succ hk
    refine ⟨(⟨gr, 0, none⟩ : Addr).add (off K i), ?_, by rw [add_block]; exact l2.2, fun j x hx => ?_⟩
    · unfold cutAt; rw [if_neg (by omega)]; rfl
    · obtain ⟨hj, hx'⟩ := List.getElem?_eq_some_iff.1 hx
      rw [Addr.add_add, hW _ (by rw [add_block]; exact l2.1) (by rw [add_block]; exact l2.2)]
      refine hR.cells rfl _ _ ?_
      unfold cellsI
      rw [List.take_length, List.getElem?_map, flat_at hk hj, hx']; rfl

set_option maxRecDepth 100000 in
set_option maxHeartbeats 1000000 in
theorem numbers_any (A : Option Addr) (n c : Nat) (ks : List (List Int)) (w : World) (hn : n = ks.length) (hk : Keys w w.heap.size A ks) (hl : ks.length ≤ 100000) (ht : ks.flatten.length ≤ 1000000) :
    Calls Tryz.prog 297 #[.slice A n c] w fun e w' => e = .returned (.int .i64 (ks.flatten.length : Int)) ∧ w = w' := by
  subst hn
  have Hk := Lib.hid hk
  have HT : Hid (∀ k, off ks k ≤ 1000000) := fun k => Nat.le_trans (off_le ks k) ht
  have HF : Hid (off ks ks.length = ks.flatten.length) := by unfold Hid off; rw [List.take_length]
  clear hk ht
  go_enter Tryz.func297, Tryz.ntmps297
  go_wp2_with fail
  go_loopw [3, 8] (fun s i wr => ∃ k m : Nat, k ≤ ks.length ∧ i = .int .i64 k ∧ s = .int .i64 (m : Int) ∧ Hid (m = off ks k) ∧ w = wr) (fun _ i _ => ks.length - (intOf i).toNat)
  case atStart => exact ⟨0, 0, Nat.zero_le _, rfl, rfl, Lib.hid rfl, rfl⟩
  case round =>
    obtain ⟨k, m, hkl, rfl, rfl, Hm, rfl⟩ := hrel
    by_cases hlt : k < ks.length
    · obtain ⟨ad, rfl, hb, hc⟩ := Hk.out (by omega)
      obtain ⟨a, c', _, c0, _⟩ := hc k ks[k] (List.getElem?_eq_getElem hlt)
      obtain ⟨l, hl0⟩ : ∃ l, l = ks[k].length := ⟨_, rfl⟩
      rw [← hl0] at c0
      have Hs : Hid (off ks (k + 1) = m + l) := by unfold Hid; rw [off_succ (List.getElem?_eq_getElem hlt), Hm.out, hl0]
      have hml : m + l ≤ 1000000 := by have := HT.out (k + 1); rw [Hs.out] at this; exact this
      clear hc hl0 hb
      go_wp2_with fail
      go_roundw
      case rel => exact ⟨k + 1, m + l, by omega, by go_num, by go_num, Lib.hid Hs.out.symm, by trivial⟩
      case measure => simp [intOf]; omega
    · obtain rfl : k = ks.length := by omega
      obtain rfl : m = ks.flatten.length := by rw [Hm.out, HF.out]
      clear Hm
      go_wp2_with fail
      go_ret
      exact ⟨rfl, rfl⟩
/-- in the midst: what is laid so far -/
structure RowsS (w wr : World) (go gr N T : Nat) (K : List (List Int)) (d m : Nat) : Prop where
  o : wr.ownsRow w.heap.size 24 1 (.slice (some ⟨go, 0, none⟩) d N) d (rowsL gr K d)
  r : wr.ownsRow w.heap.size 3 1 (.slice (some ⟨gr, 0, none⟩) m T) m (cellsI (K.take d).flatten)
  m : m = off K d
  q : Q w wr
/-- a row is appended to the numbers -/
theorem RowsS.nums {w wr w1 : World} {go gr N T : Nat} {K : List (List Int)} {d m : Nat} (h : RowsS w wr go gr N T K d m) (ne : go ≠ gr) {k : List Int} (hk : K[d]? = some k) (own : w1.ownsRow w.heap.size 3 1 (.slice (some ⟨gr, 0, none⟩) (m + k.length) T) (m + k.length) (cellsI (K.take d).flatten ++ cellsI k)) (g1 : wr.grownBy w1 (some gr)) :
    w1.ownsRow w.heap.size 24 1 (.slice (some ⟨go, 0, none⟩) d N) d (rowsL gr K d) ∧ w1.ownsRow w.heap.size 3 1 (.slice (some ⟨gr, 0, none⟩) (m + k.length) T) (m + k.length) (cellsI (K.take (d + 1)).flatten) ∧ m + k.length = off K (d + 1) ∧ Q w w1 := by
  obtain ⟨hd, hk'⟩ := List.getElem?_eq_some_iff.1 hk
  refine ⟨h.o.kept g1 (.inr (by simp [Value.ownBlock]; exact ne)), ?_, by rw [off_succ hk, h.m], Below.grown h.q g1 h.q.size (fun b e => by injection e with e; rw [← e]; exact (h.r.lt gr rfl).1)⟩
  have : cellsI (K.take (d + 1)).flatten = cellsI (K.take d).flatten ++ cellsI k := by
    rw [List.take_succ_eq_append_getElem hd, hk', List.flatten_append]
    simp [cellsI]
  rw [this]
  exact own
theorem cut_is (g m l : Nat) : cutAt (some (⟨g, 0, none⟩ : Addr)) (m + l) m = if l = 0 then some (⟨g, 0, none⟩ : Addr) else some ⟨g, m, none⟩ := by
  unfold cutAt
  by_cases h : l = 0
  · rw [if_pos (by omega), if_pos h]
  · rw [if_neg (by omega), if_neg h, Option.map_some, add_zero_head]
theorem rowsInfo : (Tryz.prog.info? 23).map (fun i => (i.zero, i.size, i.bytes)) = some (some (.slice none 0 0), 1, 24) := by kernel_rfl
theorem arr_at (X Y : Value) (u : World) : (Instr.index 320 (.agg #[X, Y]) (.int .i64 0)).run Tryz.prog u = .ok X u ∧ (Instr.index 320 (.agg #[X, Y]) (.int .i64 1)).run Tryz.prog u = .ok Y u := by
  obtain ⟨i0, hi, hz0, hz1, hz2⟩ := info_parts rowsInfo
  constructor <;> simp [Instr.index, run_underlying Tryz.underlying320, asIntOf, sizeOf, typeInfo, hi, hz1, part]
theorem src_alloc1 (w : World) (v : Value) (t : TypeId) : (w.alloc (Obj.cells #[v] t)).cell? ((⟨w.heap.size, 0, none⟩ : Addr).add 0) = some v := by simp [Addr.add]
set_option maxRecDepth 100000 in
set_option maxHeartbeats 4000000 in
theorem copyKeys_any (A A' : Option Addr) (n c n' c' : Nat) (ks ks' : List (List Int)) (w : World) (hn : n = ks.length) (hn' : n' = ks'.length) (hk : Keys w w.heap.size A ks) (hk' : Keys w w.heap.size A' ks')
    (hl : (ks ++ ks').length ≤ 40000) (ht : (ks ++ ks').flatten.length ≤ 400000) :
    Calls Tryz.prog 226 #[.slice A n c, .slice A' n' c'] w (CopyPost (ks ++ ks') w) := by
  subst hn hn'
  obtain ⟨K, hK⟩ : ∃ K, K = ks ++ ks' := ⟨_, rfl⟩
  obtain ⟨N, hN⟩ : ∃ N, N = ks.length + ks'.length := ⟨_, rfl⟩
  obtain ⟨T, hT⟩ : ∃ T, T = ks.flatten.length + ks'.flatten.length := ⟨_, rfl⟩
  have hNK : N = K.length := by rw [hN, hK, List.length_append]
  have hTK : T = K.flatten.length := by rw [hT, hK, List.flatten_append, List.length_append]
  rw [← hK] at hl ht ⊢
  have HK := Lib.hid hK
  have HN := Lib.hid hNK
  have HNs := Lib.hid hN
  have HTK := Lib.hid hTK
  have Hk := Lib.hid hk
  have Hk' := Lib.hid hk'
  have h1 : ks.flatten.length ≤ 400000 := by omega
  have h2 : ks'.flatten.length ≤ 400000 := by omega
  have h3 : ks.length ≤ 40000 := by omega
  have h4 : ks'.length ≤ 40000 := by omega
  have hN4 : N ≤ 40000 := by omega
  have hT4 : T ≤ 400000 := by omega
  have CN1 := Lib.hid (fun (U : World) (q : Q w U) => numbers_any A _ c ks U rfl ((hk.q (Nat.le_refl _) q).more q.size) (by omega) (by omega))
  have CN2 := Lib.hid (fun (U : World) (q : Q w U) => numbers_any A' _ c' ks' U rfl ((hk'.q (Nat.le_refl _) q).more q.size) (by omega) (by omega))
  obtain ⟨s1, hs1⟩ : ∃ s1, s1 = ks.flatten.length := ⟨_, rfl⟩
  obtain ⟨s2, hs2⟩ : ∃ s2, s2 = ks'.flatten.length := ⟨_, rfl⟩
  rw [← hs1] at CN1 h1 hT
  rw [← hs2] at CN2 h2 hT
  have ew1 : IntKind.i64.wrap ((ks.length : Int) + (ks'.length : Int)) = (N : Int) := by rw [IntWalk.i64_in _ (by omega)]; omega
  have ew2 : IntKind.i64.wrap ((s1 : Int) + (s2 : Int)) = (T : Int) := by rw [IntWalk.i64_in _ (by omega)]; omega
  have HN4 := Lib.hid hN4
  have HT4 := Lib.hid hT4
  clear hk hk' hK hNK hTK hl ht hs1 hs2 hN hT
  obtain ⟨i0, hi0, hz0, hz1, hz2⟩ := info_parts intInfo
  have Hi0 := Lib.hid hi0
  have Hz0 := Lib.hid hz0
  have Hz1 := Lib.hid hz1
  have Hz2 := Lib.hid hz2
  obtain ⟨i1, hi1, hy0, hy1, hy2⟩ := info_parts sliceInfo
  have Hi1 := Lib.hid hi1
  have Hy0 := Lib.hid hy0
  have Hy1 := Lib.hid hy1
  have Hy2 := Lib.hid hy2
  clear hi0 hz0 hz1 hz2 hi1 hy0 hy1 hy2
  go_enter Tryz.func226, Tryz.ntmps226
  go_upto_region 1 with fail
  go_upto_region 2 with (at_make; refine wpList_make_own _ rfl (.const (.int .i64 0)) (.tmp 16) 23 rfl w.heap.size 24 i1 _ 1 Tryz.underlying23 Hi1.out Hy0.out Hy1.out .i64 .i64 (N : Int) N rfl (by first | rfl | (simp; exact ew1)) rfl (by rw [Hy2.out]; have := HN4.out; omega) (by have := HN4.out; unfold maxLen; omega) (Nat.le_refl _) ?_; intro wa own1 gr1)
  have q1 : Q w wa := Below.grown (Q.refl w) gr1 (Nat.le_refl _) (fun b e => by cases e)
  have HO1 := Lib.hid own1
  have HQ1 := Lib.hid q1
  clear own1 gr1 q1
  go_upto_region 3 with (first
    | (go_at_call 297; (with_reducible refine (CN1.out wa HQ1.out).mono ?_); rintro e w' ⟨rfl, rfl⟩)
    | (go_at_call 297; (with_reducible refine (CN2.out wa HQ1.out).mono ?_); rintro e w' ⟨rfl, rfl⟩)
    | (at_make; refine wpList_make_own _ rfl (.const (.int .i64 0)) (.tmp 22) 24 rfl w.heap.size 3 i0 _ 1 Tryz.underlying24 Hi0.out Hz0.out Hz1.out .i64 .i64 (T : Int) T rfl (by first | rfl | (simp; exact ew2)) rfl (by rw [Hz2.out]; have := HT4.out; omega) (by have := HT4.out; unfold maxLen; omega) HQ1.out.size ?_; intro wb own2 gr2)
    | fail)
  have q2 : Q wa wb := Below.grown (Q.refl wa) gr2 (Nat.le_refl _) (fun b e => by cases e)
  have HNe : Hid (w.heap.size ≠ wa.heap.size) := fun e => by have := (HO1.out.lt w.heap.size rfl).2; omega
  have HS0 : Hid (RowsS w wb w.heap.size wa.heap.size N T K 0 0) := ⟨HO1.out.kept gr2 (.inr (by simp [Value.ownBlock])), own2, rfl, HQ1.out.trans q2⟩
  clear own2 gr2 q2 CN1 CN2 HO1 HQ1 ew1 ew2 h1 h2
  go_wp2_with fail
  go_loopw [5, 6, 27] (fun o r i wr => ∃ (z : Int) (d m : Nat), Hid (z = 0 ∧ d = 0 ∨ z = 1 ∧ d = ks.length ∨ z = 2 ∧ d = N) ∧ i = .int .i64 z ∧ o = .slice (some ⟨w.heap.size, 0, none⟩) d N ∧ r = .slice (some ⟨wa.heap.size, 0, none⟩) m T ∧ m ≤ T ∧ Hid (RowsS w wr w.heap.size wa.heap.size N T K d m)) (fun _ _ i _ => 2 - (intOf i).toNat)
  case atStart => exact ⟨0, 0, 0, Lib.hid (.inl ⟨rfl, rfl⟩), rfl, rfl, rfl, Nat.zero_le _, HS0⟩
  case round =>
    obtain ⟨z, d, m, Hd, rfl, rfl, rfl, hmT, HS⟩ := hrel
    rcases Hd.out with ⟨hz, hd⟩ | ⟨hz, hd⟩ | ⟨hz, hd⟩
    · subst z
      subst d
      clear Hd HS0
      have ix := fun u => (arr_at (.slice A ks.length c) (.slice A' ks'.length c') u).1
      go_wp2_with fail
      go_loopw [5, 6, 32] (fun o r i wr => ∃ k m : Nat, k ≤ ks.length ∧ i = .int .i64 k ∧ o = .slice (some ⟨w.heap.size, 0, none⟩) k N ∧ r = .slice (some ⟨wa.heap.size, 0, none⟩) m T ∧ m ≤ T ∧ Hid (RowsS w wr w.heap.size wa.heap.size N T K k m)) (fun _ _ i _ => ks.length - (intOf i).toNat)
      case atStart => exact ⟨0, _, Nat.zero_le _, rfl, rfl, rfl, by assumption, HS⟩
      case round =>
        obtain ⟨k, m, hkl, rfl, rfl, rfl, hmT, HS⟩ := hrel
        by_cases hlt : k < ks.length
        · obtain ⟨ad, had, hb, hc⟩ := Hk.out (by omega)
          obtain ⟨a, c1, -, c0, hi⟩ := hc k ks[k] (List.getElem?_eq_getElem hlt)
          obtain ⟨kk, hkk⟩ : ∃ kk, kk = ks[k] := ⟨_, rfl⟩
          rw [← hkk] at c0 hi
          have hKd : K[k]? = some kk := by
            rw [HK.out, hkk]
            rw [List.getElem?_append_left hlt, List.getElem?_eq_getElem hlt]
          have hsum : m + kk.length ≤ T := by
            have h1 := off_succ hKd
            have h2 := off_le K (k + 1)
            have h3 := HS.out.m
            have h4 := HTK.out
            omega
          have hcell : wr.cell? (ad.add k) = some (.slice a kk.length c1) := (HS.out.q.cell (by rw [add_block]; exact hb)).trans c0
          have HI := Lib.hid ((hi.q (Nat.le_refl _) HS.out.q).more HS.out.q.size)
          have Hlt := Lib.hid hlt
          have HKd := Lib.hid hKd
          obtain ⟨l, hl0⟩ : ∃ l, l = kk.length := ⟨_, rfl⟩
          rw [← hl0] at hcell hsum
          have Hl0 := Lib.hid hl0
          have Hsum := Lib.hid hsum
          subst had
          have j0 : (0 : Int) ≤ (k : Int) := Int.natCast_nonneg _
          have j1 : (k : Int) < (ks.length : Int) := by omega
          have d0 : decide ((k : Int) < (ks.length : Int)) = true := decide_eq_true (by omega)
          have d0n : decide (k < ks.length) = true := decide_eq_true hlt
          clear hc hb c0 hi hkk hKd hl0 hkl hlt
          go_upto_region 10 with fail
          obtain ⟨i0, hi0, hz0, hz1, hz2⟩ := info_parts intInfo
          have Hi0 := Lib.hid hi0
          have Hz1 := Lib.hid hz1
          clear hi0 hz0 hz1 hz2
          go_upto_region 11 with (at_builtin; refine wpList_append_room _ rfl (.tmp 38) (.tmp 39) 24 rfl w.heap.size 3 i0 Tryz.underlying24 Hi0.out Hz1.out wa.heap.size m T _ rfl HS.out.r a l c1 (cellsI kk) rfl (by unfold cellsI; rw [List.length_map, Hl0.out]) (fun h0 => (by obtain ⟨ad', e', _, h'⟩ := HI.out.srcB h0; exact ⟨ad', e', h'⟩)) (cellsI_one kk) Hsum.out ?_; intro w1 own1 gr1; have HO1 := Lib.hid own1; have HG1 := Lib.hid gr1; clear own1 gr1)
          rw [Hl0.out] at HO1
          obtain ⟨hA1, hA2, hA3, hA4⟩ := HS.out.nums HNe.out HKd.out HO1.out HG1.out
          rw [← Hl0.out] at hA2 hA3
          have HA1 := Lib.hid hA1
          have HA2 := Lib.hid hA2
          have HA3 := Lib.hid hA3
          have HA4 := Lib.hid hA4
          clear hA1 hA2 hA3 hA4 HO1 HG1 hcell
          obtain ⟨i1, hi1, hy0, hy1, hy2⟩ := info_parts sliceInfo
          have Hi1 := Lib.hid hi1
          have Hy1 := Lib.hid hy1
          clear hi1 hy0 hy1 hy2
          have hdN : k < N := by have := HN.out; have := (List.getElem?_eq_some_iff.1 HKd.out).1; omega
          have HdN := Lib.hid hdN
          go_upto_region 12 with (at_builtin; refine wpList_append_fits _ rfl (.tmp 41) (.tmp 49) 23 rfl w.heap.size 24 i1 1 Tryz.underlying23 Hi1.out Hy1.out w.heap.size k N _ rfl (HA1.out.alloc _) ⟨w1.heap.size, 0, none⟩ 1 1 [.slice (if l = 0 then some (⟨wa.heap.size, 0, none⟩ : Addr) else some ⟨wa.heap.size, m, none⟩) l l] rfl rfl (by intro j u hu; match j, hu with | 0, hu => (have e : Value.slice (if l = 0 then some (⟨wa.heap.size, 0, none⟩ : Addr) else some ⟨wa.heap.size, m, none⟩) l l = u := (by simpa using hu); subst e; exact (src_alloc1 w1 _ _)) | j + 1, hu => simp at hu) (by intro u hu; rw [List.mem_singleton] at hu; subst hu; rfl) HdN.out ?_; intro w2 own2 gr2; have HO2 := Lib.hid own2; have HG2 := Lib.hid gr2; clear own2 gr2)
          have HS2 : Hid (RowsS w w2 w.heap.size wa.heap.size N T K (k + 1) (m + l)) := by
            have q1 := HA4.out.alloc (Obj.cells #[.slice (if l = 0 then some (⟨wa.heap.size, 0, none⟩ : Addr) else some ⟨wa.heap.size, m, none⟩) l l] 24)
            refine ⟨?_, (HA2.out.alloc _).kept HG2.out (.inr (by simp [Value.ownBlock]; exact fun e => HNe.out e.symm)), HA3.out, Below.grown q1 HG2.out q1.size (fun b e => by injection e with e; rw [← e]; exact (HA1.out.lt w.heap.size rfl).1)⟩
            have e1 : rowAt wa.heap.size K k = .slice (if l = 0 then some (⟨wa.heap.size, 0, none⟩ : Addr) else some ⟨wa.heap.size, m, none⟩) l l := by
              unfold rowAt
              rw [← HA3.out, ← HS.out.m, show K.getD k [] = kk by rw [List.getD_eq_getElem?_getD, HKd.out]; rfl, Hl0.out, cut_is]
            rw [rowsL_succ, e1]
            exact HO2.out
          clear HA1 HA2 HA3 HA4 HO2 HG2 HS
          have hlt := Hlt.out
          go_wp2_with fail
          go_roundw
          case rel => exact ⟨k + 1, m + l, by have := Hlt.out; omega, by go_num, rfl, rfl, Hsum.out, HS2⟩
          case measure => have := Hlt.out; simp [intOf]; omega
        · obtain rfl : k = ks.length := by omega
          have d0 : decide ((ks.length : Int) < (ks.length : Int)) = false := decide_eq_false (by omega)
          have d0n : decide (ks.length < ks.length) = false := decide_eq_false (by omega)
          go_wp2_with fail
          go_roundw
          case rel => exact ⟨1, _, m, Lib.hid (.inr (.inl ⟨rfl, rfl⟩)), rfl, rfl, rfl, hmT, HS⟩
          case measure => simp [intOf]
    · subst z
      subst d
      clear Hd HS0
      have ix := fun u => (arr_at (.slice A ks.length c) (.slice A' ks'.length c') u).2
      go_wp2_with fail
      go_loopw [5, 6, 32] (fun o r i wr => ∃ k m : Nat, k ≤ ks'.length ∧ i = .int .i64 k ∧ o = .slice (some ⟨w.heap.size, 0, none⟩) (ks.length + k) N ∧ r = .slice (some ⟨wa.heap.size, 0, none⟩) m T ∧ m ≤ T ∧ Hid (RowsS w wr w.heap.size wa.heap.size N T K (ks.length + k) m)) (fun _ _ i _ => ks'.length - (intOf i).toNat)
      case atStart => exact ⟨0, _, Nat.zero_le _, rfl, by rw [Nat.add_zero], rfl, by assumption, by rw [Nat.add_zero]; exact HS⟩
      case round =>
        obtain ⟨k, m, hkl, rfl, rfl, rfl, hmT, HS⟩ := hrel
        by_cases hlt : k < ks'.length
        · obtain ⟨ad, had, hb, hc⟩ := Hk'.out (by omega)
          obtain ⟨a, c1, -, c0, hi⟩ := hc k ks'[k] (List.getElem?_eq_getElem hlt)
          obtain ⟨kk, hkk⟩ : ∃ kk, kk = ks'[k] := ⟨_, rfl⟩
          rw [← hkk] at c0 hi
          have hKd : K[(ks.length + k)]? = some kk := by
            rw [HK.out, hkk]
            rw [List.getElem?_append_right (by omega), Nat.add_sub_cancel_left, List.getElem?_eq_getElem hlt]
          have hsum : m + kk.length ≤ T := by
            have h1 := off_succ hKd
            have h2 := off_le K ((ks.length + k) + 1)
            have h3 := HS.out.m
            have h4 := HTK.out
            omega
          have hcell : wr.cell? (ad.add k) = some (.slice a kk.length c1) := (HS.out.q.cell (by rw [add_block]; exact hb)).trans c0
          have HI := Lib.hid ((hi.q (Nat.le_refl _) HS.out.q).more HS.out.q.size)
          have Hlt := Lib.hid hlt
          have HKd := Lib.hid hKd
          obtain ⟨l, hl0⟩ : ∃ l, l = kk.length := ⟨_, rfl⟩
          rw [← hl0] at hcell hsum
          have Hl0 := Lib.hid hl0
          have Hsum := Lib.hid hsum
          subst had
          have j0 : (0 : Int) ≤ (k : Int) := Int.natCast_nonneg _
          have j1 : (k : Int) < (ks'.length : Int) := by omega
          have d0 : decide ((k : Int) < (ks'.length : Int)) = true := decide_eq_true (by omega)
          have d0n : decide (k < ks'.length) = true := decide_eq_true hlt
          clear hc hb c0 hi hkk hKd hl0 hkl hlt
          go_upto_region 10 with fail
          obtain ⟨i0, hi0, hz0, hz1, hz2⟩ := info_parts intInfo
          have Hi0 := Lib.hid hi0
          have Hz1 := Lib.hid hz1
          clear hi0 hz0 hz1 hz2
          go_upto_region 11 with (at_builtin; refine wpList_append_room _ rfl (.tmp 38) (.tmp 39) 24 rfl w.heap.size 3 i0 Tryz.underlying24 Hi0.out Hz1.out wa.heap.size m T _ rfl HS.out.r a l c1 (cellsI kk) rfl (by unfold cellsI; rw [List.length_map, Hl0.out]) (fun h0 => (by obtain ⟨ad', e', _, h'⟩ := HI.out.srcB h0; exact ⟨ad', e', h'⟩)) (cellsI_one kk) Hsum.out ?_; intro w1 own1 gr1; have HO1 := Lib.hid own1; have HG1 := Lib.hid gr1; clear own1 gr1)
          rw [Hl0.out] at HO1
          obtain ⟨hA1, hA2, hA3, hA4⟩ := HS.out.nums HNe.out HKd.out HO1.out HG1.out
          rw [← Hl0.out] at hA2 hA3
          have HA1 := Lib.hid hA1
          have HA2 := Lib.hid hA2
          have HA3 := Lib.hid hA3
          have HA4 := Lib.hid hA4
          clear hA1 hA2 hA3 hA4 HO1 HG1 hcell
          obtain ⟨i1, hi1, hy0, hy1, hy2⟩ := info_parts sliceInfo
          have Hi1 := Lib.hid hi1
          have Hy1 := Lib.hid hy1
          clear hi1 hy0 hy1 hy2
          have hdN : (ks.length + k) < N := by have := HN.out; have := (List.getElem?_eq_some_iff.1 HKd.out).1; omega
          have HdN := Lib.hid hdN
          go_upto_region 12 with (at_builtin; refine wpList_append_fits _ rfl (.tmp 41) (.tmp 49) 23 rfl w.heap.size 24 i1 1 Tryz.underlying23 Hi1.out Hy1.out w.heap.size (ks.length + k) N _ rfl (HA1.out.alloc _) ⟨w1.heap.size, 0, none⟩ 1 1 [.slice (if l = 0 then some (⟨wa.heap.size, 0, none⟩ : Addr) else some ⟨wa.heap.size, m, none⟩) l l] rfl rfl (by intro j u hu; match j, hu with | 0, hu => (have e : Value.slice (if l = 0 then some (⟨wa.heap.size, 0, none⟩ : Addr) else some ⟨wa.heap.size, m, none⟩) l l = u := (by simpa using hu); subst e; exact (src_alloc1 w1 _ _)) | j + 1, hu => simp at hu) (by intro u hu; rw [List.mem_singleton] at hu; subst hu; rfl) HdN.out ?_; intro w2 own2 gr2; have HO2 := Lib.hid own2; have HG2 := Lib.hid gr2; clear own2 gr2)
          have HS2 : Hid (RowsS w w2 w.heap.size wa.heap.size N T K ((ks.length + k) + 1) (m + l)) := by
            have q1 := HA4.out.alloc (Obj.cells #[.slice (if l = 0 then some (⟨wa.heap.size, 0, none⟩ : Addr) else some ⟨wa.heap.size, m, none⟩) l l] 24)
            refine ⟨?_, (HA2.out.alloc _).kept HG2.out (.inr (by simp [Value.ownBlock]; exact fun e => HNe.out e.symm)), HA3.out, Below.grown q1 HG2.out q1.size (fun b e => by injection e with e; rw [← e]; exact (HA1.out.lt w.heap.size rfl).1)⟩
            have e1 : rowAt wa.heap.size K (ks.length + k) = .slice (if l = 0 then some (⟨wa.heap.size, 0, none⟩ : Addr) else some ⟨wa.heap.size, m, none⟩) l l := by
              unfold rowAt
              rw [← HA3.out, ← HS.out.m, show K.getD (ks.length + k) [] = kk by rw [List.getD_eq_getElem?_getD, HKd.out]; rfl, Hl0.out, cut_is]
            rw [rowsL_succ, e1]
            exact HO2.out
          clear HA1 HA2 HA3 HA4 HO2 HG2 HS
          have hlt := Hlt.out
          go_wp2_with fail
          go_roundw
          case rel => exact ⟨k + 1, m + l, by have := Hlt.out; omega, by go_num, by rw [Nat.add_assoc], rfl, Hsum.out, by rw [← Nat.add_assoc]; exact HS2⟩
          case measure => have := Hlt.out; simp [intOf]; omega
        · obtain rfl : k = ks'.length := by omega
          have d0 : decide ((ks'.length : Int) < (ks'.length : Int)) = false := decide_eq_false (by omega)
          have d0n : decide (ks'.length < ks'.length) = false := decide_eq_false (by omega)
          go_wp2_with fail
          go_roundw
          case rel => exact ⟨2, N, m, Lib.hid (.inr (.inr ⟨rfl, rfl⟩)), rfl, by rw [HNs.out], rfl, hmT, by rw [HNs.out]; rw [HNs.out] at HS; exact HS⟩
          case measure => simp [intOf]
    · subst z
      subst d
      clear Hd
      obtain rfl : N = K.length := HN.out
      have hm := HS.out.m
      subst hm
      go_wp2_with fail
      go_ret
      exact ⟨_, _, rfl, fun W hW => rows_keys HS.out.o HS.out.r hW, HS.out.q, Nat.le_refl _⟩
end Go.Proofs.YtnifmfdlocgefaaGreat.Hs

namespace Go.Proofs.YtnifmfdlocgefaaGreat.Hs
open Go.RowKit Kit

def SameAsPost (ks : List (List Int)) (key : List Int) (w : World) (e : Ending) (w' : World) : Prop :=
  ∃ Bk Be, e = .returned (.func (.func 310) #[] #[.pointer (some ⟨Bk, 0, none⟩), .pointer (some ⟨Be, 0, none⟩)]) ∧ Q w w' ∧
    ∀ x W, Q w' W → Calls Tryz.prog 310 #[.int .i64 x, .pointer (some ⟨Bk, 0, none⟩), .pointer (some ⟨Be, 0, none⟩)] W fun e W' => e = .returned (.bool (sameP ks key x)) ∧ ∃ d, W' = W.drewN d
theorem sameAsQ_any (A E : Option Addr) (n c n' c' : Nat) (ks : List (List Int)) (key : List Int) (w : World) (hn : n = ks.length) (hn' : n' = key.length) (hk : Keys w w.heap.size A ks) (he : Ints w w.heap.size E key) (hs : ∀ k ∈ ks, k.length ≤ maxLen) :
    Calls Tryz.prog 266 #[.slice A n c, .slice E n' c'] w (SameAsPost ks key w) := by
  subst hn
  subst hn'
  refine (sameAs_any A E _ c _ c' w).mono ?_
  rintro e w' ⟨rfl, rfl⟩
  have q := ((Q.refl w).alloc (.cells #[.slice A ks.length c] 23)).alloc (.cells #[.slice E key.length c'] 24)
  have b1 := (Boxed.new w 23 (.slice A ks.length c)).alloc (.cells #[.slice E key.length c'] 24)
  have b2 := Boxed.new (w.alloc (.cells #[.slice A ks.length c] 23)) 24 (.slice E key.length c')
  rw [World.size_alloc] at b2
  refine ⟨_, _, rfl, q, fun x W hW => ?_⟩
  have q' := q.trans hW
  exact same1_any w.heap.size (w.heap.size + 1) A E c c' ks key x W ((hk.q (Nat.le_refl _) q').more q'.size) ((he.q (Nat.le_refl _) q').more q'.size) hs ((hW.cell (p := ⟨w.heap.size, 0, none⟩) b1.lt).trans b1.cell) ((hW.cell (p := ⟨w.heap.size + 1, 0, none⟩) b2.lt).trans b2.cell)

set_option maxRecDepth 100000 in
set_option maxHeartbeats 1000000 in
theorem find_any (A S E : Option Addr) (n c m d ke ce : Nat) (ks : List (List Int)) (sl key : List Int) (w : World) (hn : n = ks.length) (hm : m = sl.length) (hke : ke = key.length) (hk : Keys w w.heap.size A ks) (hS : Ints w w.heap.size S sl) (he : Ints w w.heap.size E key)
    (hs : ∀ k ∈ ks, k.length ≤ maxLen) (hkl : key.length ≤ maxLen) (hsl : sl.length ≤ 100000000) :
    Calls Tryz.prog 191 #[.agg #[.slice A n c, .slice S m d], .slice E ke ce] w fun e w' => e = .returned (.int .i64 (seekI (sameP ks key) sl (hashN key)).2) ∧ Q w w' := by
  subst hn
  subst hm
  subst hke
  have q0 := (Q.refl w).alloc (Obj.cells #[Value.slice A ks.length c, Value.slice S sl.length d] 26)
  have Hk := Lib.hid ((hk.q (Nat.le_refl _) q0).more q0.size)
  have HS := Lib.hid ((hS.q (Nat.le_refl _) q0).more q0.size)
  have He := Lib.hid ((he.q (Nat.le_refl _) q0).more q0.size)
  have Hs := Lib.hid hs
  clear hk hS he hs
  go_enter Tryz.func191, Tryz.ntmps191
  go_wp2_with fail
  have k0 : (w.alloc (Obj.cells #[Value.slice A ks.length c, Value.slice S sl.length d] 26)).cell? ⟨w.heap.size, 0, none⟩ = some (.slice A ks.length c) := by simp
  have k1 : (w.alloc (Obj.cells #[Value.slice A ks.length c, Value.slice S sl.length d] 26)).cell? ⟨w.heap.size, 1, none⟩ = some (.slice S sl.length d) := by simp
  have hlt : w.heap.size < (w.alloc (Obj.cells #[Value.slice A ks.length c, Value.slice S sl.length d] 26)).heap.size := by simp
  generalize w.alloc (Obj.cells #[Value.slice A ks.length c, Value.slice S sl.length d] 26) = W0 at *
  go_region_held3 (fun w' => w'.cell? ⟨w.heap.size, 0, none⟩ = some (.slice A ks.length c) ∧ w'.cell? ⟨w.heap.size, 1, none⟩ = some (.slice S sl.length d))
    (first
      | go_keep
      | exact ⟨(p1.cell (p := ⟨w.heap.size, 0, none⟩) hlt).trans k0, (p1.cell (p := ⟨w.heap.size, 1, none⟩) hlt).trans k1⟩
      | exact ⟨((p1.trans q2).cell (p := ⟨w.heap.size, 0, none⟩) hlt).trans k0, ((p1.trans q2).cell (p := ⟨w.heap.size, 1, none⟩) hlt).trans k1⟩)
    (first
      | (go_at_call 232; refine (hashN_any _ _ _ key _ rfl (by exact He.out) hkl).mono ?_; rintro e w' ⟨rfl, rfl⟩)
      | (go_at_call 266; refine (sameAsQ_any _ _ _ _ _ _ ks key _ rfl rfl (by exact Hk.out) (by exact He.out) Hs.out).mono ?_; rintro e w1 ⟨Bk, Be, rfl, q1, hC⟩; have HC := Lib.hid hC; clear hC; have p1 := (Q.refl W0).drew.trans q1)
      | (go_at_call 231; refine (seek_same _ _ _ sl _ (sameP ks key) Bk Be _ rfl (by exact ((HS.out.q (Nat.le_refl _) p1).more p1.size)) (hashN_lt _) hsl HC.out).mono ?_; rintro e w2 ⟨rfl, q2⟩))
  go_wp2_with fail
  go_ret
  exact ⟨rfl, (q0.trans p1).trans q2⟩
end Go.Proofs.YtnifmfdlocgefaaGreat.Hs

namespace Go.Proofs.YtnifmfdlocgefaaGreat.Hs
open Go.RowKit Kit

/-- the two blocks that a call lays at its head: the table, and the result -/
structure TwoB (w W : World) (a b x y : Value) : Prop where
  c0 : W.cell? ⟨w.heap.size, 0, none⟩ = some a
  c1 : W.cell? ⟨w.heap.size, 1, none⟩ = some b
  r0 : W.cell? ⟨w.heap.size + 1, 0, none⟩ = some x
  r1 : W.cell? ⟨w.heap.size + 1, 1, none⟩ = some y
  f0 : W.frozen? ⟨w.heap.size + 1, 0, none⟩ = false
  f1 : W.frozen? ⟨w.heap.size + 1, 1, none⟩ = false
  lt : w.heap.size + 1 < W.heap.size
theorem TwoB.q {w W W' : World} {a b x y : Value} (h : TwoB w W a b x y) (q : Q W W') : TwoB w W' a b x y :=
  have l0 : w.heap.size < W.heap.size := by have := h.lt; omega
  ⟨(q.cell (p := ⟨w.heap.size, 0, none⟩) l0).trans h.c0, (q.cell (p := ⟨w.heap.size, 1, none⟩) l0).trans h.c1, (q.cell (p := ⟨w.heap.size + 1, 0, none⟩) h.lt).trans h.r0, (q.cell (p := ⟨w.heap.size + 1, 1, none⟩) h.lt).trans h.r1,
   (q.frozen (p := ⟨w.heap.size + 1, 0, none⟩) h.lt).trans h.f0, (q.frozen (p := ⟨w.heap.size + 1, 1, none⟩) h.lt).trans h.f1, Nat.lt_of_lt_of_le h.lt q.size⟩
theorem TwoB.new (w : World) (a b x y : Value) (t t' : TypeId) : TwoB w ((w.alloc (.cells #[a, b] t)).alloc (.cells #[x, y] t')) a b x y := by
  refine ⟨by simp, by simp, by simp, by simp, by simp, by simp, by simp⟩
theorem set_two {w W : World} {x y u v : Value} (r0 : W.cell? ⟨w.heap.size + 1, 0, none⟩ = some x) (r1 : W.cell? ⟨w.heap.size + 1, 1, none⟩ = some y) :
    ((W.setCell ⟨w.heap.size + 1, 0, none⟩ u).setCell ⟨w.heap.size + 1, 1, none⟩ v).cell? ⟨w.heap.size + 1, 0, none⟩ = some u ∧ ((W.setCell ⟨w.heap.size + 1, 0, none⟩ u).setCell ⟨w.heap.size + 1, 1, none⟩ v).cell? ⟨w.heap.size + 1, 1, none⟩ = some v ∧
    (Q w W → Q w ((W.setCell ⟨w.heap.size + 1, 0, none⟩ u).setCell ⟨w.heap.size + 1, 1, none⟩ v)) := by
  refine ⟨?_, ?_, fun h => (h.setCell (p := ⟨w.heap.size + 1, 0, none⟩) (by show _ ≤ w.heap.size + 1; omega) _).setCell (p := ⟨w.heap.size + 1, 1, none⟩) (by show _ ≤ w.heap.size + 1; omega) _⟩
  · have := World.cell?_setCell_other (w := W.setCell ⟨w.heap.size + 1, 0, none⟩ u) (a := ⟨w.heap.size + 1, 1, none⟩) (b := ⟨w.heap.size + 1, 0, none⟩) (v := v) (by intro h; injection h with _ h; cases h)
    exact this.trans (World.cell?_setCell_same' _ _ _ (by rw [r0]; rfl))
  · have := World.cell?_setCell_other (w := W) (a := ⟨w.heap.size + 1, 0, none⟩) (b := ⟨w.heap.size + 1, 1, none⟩) (v := u) (by intro h; injection h with _ h; cases h)
    exact World.cell?_setCell_same' _ _ _ (by rw [this, r1]; rfl)
theorem TwoB.set {w W : World} {a b x y : Value} (h : TwoB w W a b x y) {g i : Nat} (hg : w.heap.size + 1 < g) (v : Value) : TwoB w (W.setCell ⟨g, i, none⟩ v) a b x y :=
  ⟨(World.cell?_setCell_far _ _ _ _ (by show g ≠ w.heap.size; omega)).trans h.c0, (World.cell?_setCell_far _ _ _ _ (by show g ≠ w.heap.size; omega)).trans h.c1, (World.cell?_setCell_far _ _ _ _ (by show g ≠ w.heap.size + 1; omega)).trans h.r0, (World.cell?_setCell_far _ _ _ _ (by show g ≠ w.heap.size + 1; omega)).trans h.r1,
   by rw [World.frozen?_setCell]; exact h.f0, by rw [World.frozen?_setCell]; exact h.f1, by have := h.lt; simpa [World.setCell] using this⟩
theorem set_two_other (W : World) (B : Nat) (u v : Value) (p : Addr) (hp : p.block ≠ B) : ((W.setCell ⟨B, 0, none⟩ u).setCell ⟨B, 1, none⟩ v).cell? p = W.cell? p :=
  (World.cell?_setCell_far _ _ _ _ (fun e => hp e.symm)).trans (World.cell?_setCell_far _ _ _ _ (fun e => hp e.symm))
end Go.Proofs.YtnifmfdlocgefaaGreat.Hs

namespace Go.Proofs.YtnifmfdlocgefaaGreat.Hs
open Go.RowKit Kit

/-- where a key stands in a row, from i on; -1 -/
def atF (key : List Int) : List (List Int) → Nat → Int
  | [], _ => -1
  | k :: l, i => if eqL k key then (i : Int) else atF key l (i + 1)
def atI (ks : List (List Int)) (key : List Int) : Int := atF key ks 0
theorem atF_at (key : List Int) (ks : List (List Int)) (i : Nat) (h : i < ks.length) : atF key (ks.drop i) i = if eqL ks[i] key then (i : Int) else atF key (ks.drop (i + 1)) (i + 1) := by
  rw [List.drop_eq_getElem_cons h]; rfl
theorem atF_end (key : List Int) (ks : List (List Int)) (i : Nat) (h : ks.length ≤ i) : atF key (ks.drop i) i = -1 := by
  rw [List.drop_eq_nil_of_le h]; rfl
theorem atF_spec (key : List Int) : ∀ (ks : List (List Int)) (k : Nat), (atF key ks k = -1 ∧ ∀ (i : Nat) (x : List Int), ks[i]? = some x → x ≠ key) ∨ ∃ i : Nat, ks[i]? = some key ∧ atF key ks k = ((k + i : Nat) : Int) ∧ ∀ (j : Nat) (x : List Int), j < i → ks[j]? = some x → x ≠ key
  | [], _ => .inl ⟨rfl, fun i x h => by simp at h⟩
  | y :: l, k => by
    rw [atF]
    cases he : eqL y key
    · have hne : y ≠ key := fun e => by rw [(eqL_iff y key).2 e] at he; cases he
      simp only [Bool.false_eq_true, if_false]
      rcases atF_spec key l (k + 1) with ⟨h1, h2⟩ | ⟨i, h1, h2, h3⟩
      · refine .inl ⟨h1, fun i x hx => ?_⟩
        cases i with
        | zero => obtain rfl : y = x := by simpa using hx
                  exact hne
        | succ i => exact h2 i x (by simpa using hx)
      · refine .inr ⟨i + 1, by simpa using h1, by rw [h2]; congr 1; omega, fun j x hj hx => ?_⟩
        cases j with
        | zero => obtain rfl : y = x := by simpa using hx
                  exact hne
        | succ j => exact h3 j x (by omega) (by simpa using hx)
    · rw [if_pos rfl]
      exact .inr ⟨0, by simp [(eqL_iff y key).1 he], by simp, fun j x hj => by omega⟩
/-- none of a row's keys is the same as another -/
def Dist (ks : List (List Int)) : Prop := ∀ (i j : Nat) (x : List Int), ks[i]? = some x → ks[j]? = some x → i = j
theorem atI_some {ks : List (List Int)} {key : List Int} {i : Nat} (hd : Dist ks) (h : ks[i]? = some key) : atI ks key = i := by
  rcases atF_spec key ks 0 with ⟨_, h2⟩ | ⟨j, h1, h2, _⟩
  · exact absurd rfl (h2 i key h)
  · unfold atI; rw [h2, hd i j key h h1]; omega
theorem atI_cases (ks : List (List Int)) (key : List Int) : (atI ks key = -1 ∧ ∀ (i : Nat) (x : List Int), ks[i]? = some x → x ≠ key) ∨ ∃ i : Nat, ks[i]? = some key ∧ atI ks key = i := by
  rcases atF_spec key ks 0 with h | ⟨i, h1, h2, _⟩
  · exact .inl h
  · exact .inr ⟨i, h1, by unfold atI; rw [h2]; omega⟩

theorem sameP_nat (ks : List (List Int)) (key : List Int) (i : Nat) : sameP ks key (i : Int) = true ↔ ks[i]? = some key := by
  unfold sameP
  by_cases h : i < ks.length
  · simp only [Int.natCast_nonneg, decide_true, Int.toNat_natCast, Bool.true_and, show ((i : Int) < (ks.length : Int)) = True by simp [h], List.getElem?_eq_getElem h, Option.getD_some, eqL_iff, Option.some.injEq]
  · rw [List.getElem?_eq_none (by omega)]
    simp [h]
theorem sameP_none {ks : List (List Int)} {key : List Int} (h : ∀ (i : Nat) x, ks[i]? = some x → x ≠ key) : sameP ks key = nv := by
  funext x
  cases he : sameP ks key x
  · rfl
  · have h0 : 0 ≤ x := by unfold sameP at he; simp only [Bool.and_eq_true, decide_eq_true_eq] at he; exact he.1.1
    obtain ⟨i, rfl⟩ := Int.eq_ofNat_of_zero_le h0
    exact absurd rfl (h i key ((sameP_nat ks key i).1 he))
structure Inv (ks : List (List Int)) (n : Nat) (sl : List Int) : Prop where
  range : ∀ (s : Nat) (v : Int), sl[s]? = some v → 0 ≤ v ∧ v ≤ n
  path : ∀ (i : Nat) (k : List Int), i < n → ks[i]? = some k → ∃ J, J < sl.length ∧ sl[(hashN k + J) % sl.length]? = some ((i : Int) + 1) ∧ ∀ j, j < J → sl[(hashN k + j) % sl.length]? ≠ some 0
  few : nz sl ≤ n
theorem Inv.start (ks : List (List Int)) (N : Nat) : Inv ks 0 (List.replicate N 0) :=
  ⟨fun s v h => by rw [List.getElem?_replicate] at h; split at h <;> simp at h; omega, fun i k h => by omega, by rw [nz_replicate]; omega⟩
theorem Inv.step {ks : List (List Int)} {n : Nat} {sl : List Int} {key : List Int} (h : Inv ks n sl) (hn : n < sl.length) (hk : ks[n]? = some key) : Inv ks (n + 1) (putSlot sl key n) := by
  obtain ⟨J, hJ, hz, hb, hs⟩ := free_way (hashN key) (Nat.lt_of_le_of_lt h.few hn)
  have hsl : (hashN key + J) % sl.length < sl.length := Nat.mod_lt _ (by omega)
  have e : putSlot sl key n = sl.set ((hashN key + J) % sl.length) ((n : Int) + 1) := by unfold putSlot slotOf; rw [hs]; rfl
  rw [e]
  obtain ⟨s, hse⟩ : ∃ s, (hashN key + J) % sl.length = s := ⟨_, rfl⟩
  rw [hse] at hz hsl ⊢
  have other : ∀ (t : Nat) (v : Int), sl[t]? = some v → v ≠ 0 → (sl.set s ((n : Int) + 1))[t]? = some v := fun t v ht hv => by
    rw [List.getElem?_set_ne (fun e => by subst e; rw [ht] at hz; injection hz with hz; exact hv hz)]; exact ht
  have nzero : ∀ t : Nat, sl[t]? ≠ some (0 : Int) → (sl.set s ((n : Int) + 1))[t]? ≠ some (0 : Int) := fun t ht => by
    by_cases e : s = t
    · subst e; rw [List.getElem?_set_self hsl]; intro h; injection h with h; omega
    · rw [List.getElem?_set_ne e]; exact ht
  refine ⟨fun t v ht => ?_, fun i k hi hk' => ?_, Nat.le_trans (nz_set _ _ _) (Nat.succ_le_succ h.few)⟩
  · by_cases e : s = t
    · subst e; rw [List.getElem?_set_self hsl] at ht; injection ht with ht; omega
    · rw [List.getElem?_set_ne e] at ht; have := h.range t v ht; omega
  · rw [List.length_set]
    by_cases hin : i < n
    · obtain ⟨J', h1, h2, h3⟩ := h.path i k hin hk'
      exact ⟨J', h1, other _ _ h2 (by omega), fun j hj => nzero _ (h3 j hj)⟩
    · obtain rfl : i = n := by omega
      rw [hk] at hk'
      obtain rfl : key = k := by simpa using hk'
      exact ⟨J, hJ, by rw [hse, List.getElem?_set_self hsl], fun j hj => nzero _ (hb j hj)⟩
theorem layF_inv (ks : List (List Int)) : ∀ (m i : Nat) (sl : List Int), m = ks.length - i → Inv ks i sl → i ≤ ks.length → ks.length < sl.length → Inv ks ks.length (layF (ks.drop i) i sl)
  | 0, i, sl, hm, h, hi, _ => by
    rw [layF_end ks i sl (by omega), show ks.length = i by omega]; exact h
  | m + 1, i, sl, hm, h, hi, hl => by
    have hlt : i < ks.length := by omega
    rw [layF_at ks i sl hlt]
    exact layF_inv ks m (i + 1) _ (by omega) (h.step (by omega) (List.getElem?_eq_getElem hlt)) (by omega) (by rw [putSlot_length]; exact hl)
theorem lay_inv (ks : List (List Int)) : Inv ks ks.length (layI ks) := by
  have := layF_inv ks _ 0 _ rfl (Inv.start ks (sizeN ks.length)) (Nat.zero_le _) (by rw [List.length_replicate]; exact sizeN_gt _)
  simpa [layI] using this

theorem wrap_pred {v : Int} (h : 0 ≤ v ∧ v ≤ 1000000) : wrap64 (v - 1) = v - 1 := by unfold wrap64; omega

/-- a key that is there is found at its place -/
theorem find_there {ks : List (List Int)} {key : List Int} {i : Nat} {sl : List Int} (hi : Inv ks ks.length sl) (hd : Dist ks) (hl : ks.length ≤ 100000) (h : ks[i]? = some key) : ∃ s : Nat, s < sl.length ∧ seekI (sameP ks key) sl (hashN key) = ((s : Int), (i : Int)) := by
  have hin := (List.getElem?_eq_some_iff.1 h).1
  obtain ⟨J, hJ, h2, h3⟩ := hi.path i key hin h
  obtain ⟨J', h1', h2', h3'⟩ := least_of (P := fun j => sl[(hashN key + j) % sl.length]? = some ((i : Int) + 1)) (J + 1) ⟨J, by omega, h2⟩
  have hm : ∀ j, (hashN key + j) % sl.length < sl.length := fun j => Nat.mod_lt _ (by omega)
  refine ⟨(hashN key + J') % sl.length, hm J', seekI_at (J := J') (by omega) (fun j hj => ?_) ?_⟩
  · have hv := List.getElem?_eq_getElem (hm j)
    have r := hi.range _ _ hv
    have n0 := h3 j (by omega)
    have n1 := h3' j hj
    rw [hv] at n0 n1
    obtain ⟨v, hve⟩ : ∃ v, sl[(hashN key + j) % sl.length]'(hm j) = v := ⟨_, rfl⟩
    rw [hve] at hv n0 n1 r
    have n0' : v ≠ 0 := fun e => n0 (by rw [e])
    have n1' : v ≠ (i : Int) + 1 := fun e => n1 (by rw [e])
    simp only [stepOf, visit, hv, Option.getD_some]
    rw [if_neg (by simpa using n0'), wrap_pred (by omega)]
    obtain ⟨t, ht⟩ := Int.eq_ofNat_of_zero_le (show 0 ≤ v - 1 by omega)
    rw [ht]
    have hf : sameP ks key (t : Int) = false := by
      cases hs : sameP ks key (t : Int)
      · rfl
      · have := hd i t key h ((sameP_nat ks key t).1 hs)
        omega
    rw [hf]
    rfl
  · simp only [stepOf, visit, h2', Option.getD_some]
    rw [if_neg (by simp; omega), wrap_pred (by omega), show (i : Int) + 1 - 1 = i by omega, (sameP_nat ks key i).2 h]
    rfl
/-- one that isn't there comes to the first free slot of its way -/
theorem find_not {ks : List (List Int)} {key : List Int} {sl : List Int} (hi : Inv ks ks.length sl) (hl : ks.length < sl.length) (h : ∀ (i : Nat) x, ks[i]? = some x → x ≠ key) : slotOf sl key < sl.length ∧ seekI (sameP ks key) sl (hashN key) = ((slotOf sl key : Int), -1) := by
  obtain ⟨J, hJ, _, _, hs⟩ := free_way (hashN key) (Nat.lt_of_le_of_lt hi.few hl)
  have hm : (hashN key + J) % sl.length < sl.length := Nat.mod_lt _ (by omega)
  rw [sameP_none h]
  unfold slotOf
  rw [hs]
  exact ⟨hm, rfl⟩

end Go.Proofs.YtnifmfdlocgefaaGreat.Hs

namespace Go.Proofs.YtnifmfdlocgefaaGreat.Hs
open Go.RowKit Kit

set_option maxRecDepth 100000 in
set_option maxHeartbeats 400000 in
theorem refInts_any (A B : Option Addr) (n c n' c' : Nat) (l m : List Int) (w : World) (hn : n = l.length) (hn' : n' = m.length) (hr : Ints w w.heap.size A l) (hr' : Ints w w.heap.size B m) (hl : l.length ≤ maxLen) :
    Calls Tryz.prog 19 #[.slice A n c, .slice B n' c'] w fun e w' => e = .returned (.bool (eqL l m)) ∧ ∃ d, w' = w.drewN d := by
  subst hn
  subst hn'
  unfold maxLen at hl
  by_cases hlen : l.length = m.length
  · have HE := Lib.hid hlen
    have hne : ((l.length : Int) != (m.length : Int)) = false := by simp [hlen]
    clear hlen
    go_enter Tryz.func19, Tryz.ntmps19
    go_wp2_with fail
    go_loopw [5] (fun i wr => ∃ k : Nat, k ≤ l.length ∧ i = .int .i64 k ∧ Hid (eqL l m = eqL (l.drop k) (m.drop k)) ∧ ∃ d, wr = w.drewN d) (fun i _ => l.length - (intOf i).toNat)
    case atStart => exact ⟨0, Nat.zero_le _, rfl, Lib.hid (by simp), 0, rfl⟩
    case round =>
      obtain ⟨k, hk, rfl, HF, d, rfl⟩ := hrel
      by_cases hlt : k < l.length
      · have hlt' : k < m.length := by have := HE.out; omega
        obtain ⟨ad, rfl, hb, c0⟩ := hr.at_ hlt
        obtain ⟨ad', rfl, hb', c0'⟩ := hr'.at_ hlt'
        have HS := Lib.hid (eqL_at l m k hlt hlt')
        clear hr hr'
        cases he : (l[k] == m[k])
        · have HS' : Hid (eqL (l.drop k) (m.drop k) = false) := by have := HS.out; rw [he] at this; exact this
          have he' : (l[k] != m[k]) = true := by simpa using he
          clear he
          go_wp2_with fail
          go_region
          all_goals go_wp2_with fail
          all_goals go_ret
          all_goals exact ⟨by rw [HF.out, HS'.out]; rfl, d + 1, rfl⟩
        · have HS' : Hid (eqL (l.drop k) (m.drop k) = eqL (l.drop (k + 1)) (m.drop (k + 1))) := by have := HS.out; rw [he] at this; exact this
          have he' : (l[k] != m[k]) = false := by simpa using he
          clear he
          go_wp2_with fail
          go_region
          all_goals go_wp2_with fail
          all_goals go_roundw
          case rel => exact ⟨k + 1, by omega, by go_num, Lib.hid (HF.out.trans HS'.out), d + 1, rfl⟩
          case measure => simp [intOf]; omega
      · have HS := Lib.hid (eqL_end l m k (by omega) (by have := HE.out; omega))
        go_wp2_with fail
        go_ret
        exact ⟨by rw [HF.out, HS.out]; rfl, d, rfl⟩
  · have hne : ((l.length : Int) != (m.length : Int)) = true := by simp; omega
    have HS := Lib.hid (eqL_len hlen)
    go_enter Tryz.func19, Tryz.ntmps19
    go_wp2_with fail
    go_ret
    exact ⟨by rw [HS.out]; rfl, 0, rfl⟩

theorem drewN_add' (w : World) (a b : Nat) : (w.drewN a).drewN b = w.drewN (a + b) := by simp [World.drewN, Nat.add_assoc]

def rowsB : List (List Int) → List (List Int) → Bool
  | [], [] => true
  | x :: l, y :: m => eqL x y && rowsB l m
  | _, _ => false
theorem rowsB_iff : ∀ (l m : List (List Int)), rowsB l m = true ↔ l = m
  | [], [] => by simp [rowsB]
  | [], _ :: _ => by simp [rowsB]
  | _ :: _, [] => by simp [rowsB]
  | x :: l, y :: m => by simp [rowsB, rowsB_iff l m, eqL_iff]
theorem rowsB_len {l m : List (List Int)} (h : l.length ≠ m.length) : rowsB l m = false := by
  cases e : rowsB l m
  · rfl
  · rw [rowsB_iff] at e; subst e; exact absurd rfl h
theorem rowsB_at (l m : List (List Int)) (k : Nat) (h1 : k < l.length) (h2 : k < m.length) : rowsB (l.drop k) (m.drop k) = (eqL l[k] m[k] && rowsB (l.drop (k + 1)) (m.drop (k + 1))) := by
  rw [List.drop_eq_getElem_cons h1, List.drop_eq_getElem_cons h2]; rfl
theorem rowsB_end (l m : List (List Int)) (k : Nat) (h1 : l.length ≤ k) (h2 : m.length ≤ k) : rowsB (l.drop k) (m.drop k) = true := by
  rw [List.drop_eq_nil_of_le h1, List.drop_eq_nil_of_le h2]; rfl

set_option maxRecDepth 100000 in
set_option maxHeartbeats 1000000 in
theorem refRows_any (A B : Option Addr) (n c n' c' : Nat) (l m : List (List Int)) (w : World) (hn : n = l.length) (hn' : n' = m.length) (hr : Keys w w.heap.size A l) (hr' : Keys w w.heap.size B m) (hl : l.length ≤ maxLen) (hs : ∀ k ∈ l, k.length ≤ maxLen) :
    Calls Tryz.prog 44 #[.slice A n c, .slice B n' c'] w fun e w' => e = .returned (.bool (rowsB l m)) ∧ ∃ d, w' = w.drewN d := by
  subst hn
  subst hn'
  unfold maxLen at hl
  by_cases hlen : l.length = m.length
  · have HE := Lib.hid hlen
    have hne : ((l.length : Int) != (m.length : Int)) = false := by simp [hlen]
    clear hlen
    go_enter Tryz.func44, Tryz.ntmps44
    go_wp2_with fail
    go_loopw [5] (fun i wr => ∃ k : Nat, k ≤ l.length ∧ i = .int .i64 k ∧ Hid (rowsB l m = rowsB (l.drop k) (m.drop k)) ∧ Hid (∃ d, wr = w.drewN d)) (fun i _ => l.length - (intOf i).toNat)
    case atStart => exact ⟨0, Nat.zero_le _, rfl, Lib.hid (by simp), Lib.hid ⟨0, rfl⟩⟩
    case round =>
      obtain ⟨k, hk, rfl, HF, HD⟩ := hrel
      have hrr : Keys wr wr.heap.size A l := by obtain ⟨d, rfl⟩ := HD.out; exact hr
      have hrr' : Keys wr wr.heap.size B m := by obtain ⟨d, rfl⟩ := HD.out; exact hr'
      clear hr hr'
      by_cases hlt : k < l.length
      · have hlt' : k < m.length := by have := HE.out; omega
        obtain ⟨ad, rfl, hb, a, c1, _, c0, hi⟩ := hrr.at_ hlt
        obtain ⟨ad', rfl, hb', a', c1', _, c0', hi'⟩ := hrr'.at_ hlt'
        have HS := Lib.hid (rowsB_at l m k hlt hlt')
        have C : Hid (∀ n, Calls Tryz.prog 19 #[.slice a l[k].length c1, .slice a' m[k].length c1'] (wr.drewN n) fun e w' => e = .returned (.bool (eqL l[k] m[k])) ∧ ∃ m', w' = (wr.drewN n).drewN m') := fun n =>
          refInts_any a a' _ c1 _ c1' l[k] m[k] (wr.drewN n) rfl rfl hi hi' (hs _ (List.getElem_mem hlt))
        have j0 : (0 : Int) ≤ (k : Int) := Int.natCast_nonneg _
        have j1 : (k : Int) < (l.length : Int) := by omega
        have j2 : (k : Int) < (m.length : Int) := by omega
        clear hrr hrr' hi hi'
        cases he : eqL l[k] m[k]
        · rw [he] at C HS
          have HS' : Hid (rowsB (l.drop k) (m.drop k) = false) := HS.out
          clear HS
          go_wp2_with fail
          go_quiet (first | (go_at_call 19; exact Calls.quiet_of (C.out _)))
          go_wp2_with fail
          go_ret
          exact ⟨by rw [HF.out, HS'.out]; rfl, by obtain ⟨d, rfl⟩ := HD.out; exact ⟨_, drewN_add' _ _ _⟩⟩
        · rw [he] at C HS
          have HS' : Hid (rowsB (l.drop k) (m.drop k) = rowsB (l.drop (k + 1)) (m.drop (k + 1))) := HS.out
          clear HS
          go_wp2_with fail
          go_quiet (first | (go_at_call 19; exact Calls.quiet_of (C.out _)))
          go_wp2_with fail
          go_roundw
          case rel => exact ⟨k + 1, by omega, by go_num, Lib.hid (HF.out.trans HS'.out), Lib.hid (by obtain ⟨d, rfl⟩ := HD.out; exact ⟨_, drewN_add' _ _ _⟩)⟩
          case measure => simp [intOf]; omega
      · have HS := Lib.hid (rowsB_end l m k (by omega) (by have := HE.out; omega))
        go_wp2_with fail
        go_ret
        exact ⟨by rw [HF.out, HS.out]; rfl, HD.out⟩
  · have hne : ((l.length : Int) != (m.length : Int)) = true := by simp; omega
    have HS := Lib.hid (rowsB_len hlen)
    go_enter Tryz.func44, Tryz.ntmps44
    go_wp2_with fail
    go_ret
    exact ⟨by rw [HS.out]; rfl, 0, rfl⟩

set_option maxRecDepth 100000 in
set_option maxHeartbeats 1000000 in
theorem refAt_any (A E : Option Addr) (n c ke ce : Nat) (ks : List (List Int)) (key : List Int) (w : World) (hn : n = ks.length) (hke : ke = key.length) (hr : Keys w w.heap.size A ks) (he : Ints w w.heap.size E key) (hl : ks.length ≤ maxLen) (hs : ∀ k ∈ ks, k.length ≤ maxLen) :
    Calls Tryz.prog 94 #[.slice A n c, .slice E ke ce] w fun e w' => e = .returned (.int .i64 (atI ks key)) ∧ ∃ d, w' = w.drewN d := by
  subst hn
  subst hke
  unfold maxLen at hl
  go_enter Tryz.func94, Tryz.ntmps94
  go_wp2_with fail
  go_loopw [5] (fun i wr => ∃ k : Nat, k ≤ ks.length ∧ i = .int .i64 k ∧ Hid (atI ks key = atF key (ks.drop k) k) ∧ ∃ d, wr = w.drewN d) (fun i _ => ks.length - (intOf i).toNat)
  case atStart => exact ⟨0, Nat.zero_le _, rfl, Lib.hid rfl, 0, rfl⟩
  case round =>
    obtain ⟨k, hk, rfl, HF, d, rfl⟩ := hrel
    by_cases hlt : k < ks.length
    · obtain ⟨ad, rfl, hb, a, c1, _, c0, hi⟩ := hr.at_ hlt
      have Hi := Lib.hid hi
      have HS := Lib.hid (atF_at key ks k hlt)
      have Hm := Lib.hid (hs _ (List.getElem_mem hlt))
      have j0 : (0 : Int) ≤ (k : Int) := Int.natCast_nonneg _
      have j1 : (k : Int) < (ks.length : Int) := by omega
      clear hi
      cases heq : eqL ks[k] key
      · have HS' : Hid (atF key (ks.drop k) k = atF key (ks.drop (k + 1)) (k + 1)) := by have := HS.out; rw [heq] at this; exact this
        have Hq := Lib.hid heq
        clear heq HS
        go_wp2_with fail
        refine (refInts_any a E _ c1 _ ce ks[k] key _ rfl rfl (by exact Hi.out) (by exact he) Hm.out).mono ?_
        rintro e w' ⟨rfl, d', rfl⟩
        rw [Hq.out]
        go_wp2_with fail
        go_roundw
        case rel => exact ⟨k + 1, by omega, by go_num, Lib.hid (HF.out.trans HS'.out), d + d', rfl⟩
        case measure => simp [intOf]; omega
      · have HS' : Hid (atF key (ks.drop k) k = (k : Int)) := by have := HS.out; rw [heq] at this; exact this
        have Hq := Lib.hid heq
        clear heq HS
        go_wp2_with fail
        refine (refInts_any a E _ c1 _ ce ks[k] key _ rfl rfl (by exact Hi.out) (by exact he) Hm.out).mono ?_
        rintro e w' ⟨rfl, d', rfl⟩
        rw [Hq.out]
        go_wp2_with fail
        go_ret
        exact ⟨by rw [HF.out, HS'.out]; rfl, d + d', rfl⟩
    · have HS := Lib.hid (atF_end key ks k (by omega))
      go_wp2_with fail
      go_ret
      exact ⟨by rw [HF.out, HS.out]; rfl, d, rfl⟩
end Go.Proofs.YtnifmfdlocgefaaGreat.Hs

namespace Go.Proofs.YtnifmfdlocgefaaGreat.Hs
open Go.RowKit Kit

theorem Q.of_drewN {w w' : World} (h : ∃ d, w' = w.drewN d) : Q w w' := by obtain ⟨d, rfl⟩ := h; exact (Q.refl w).drewN d

def fewF (n : Nat) : List (List Int) → Nat
  | [] => n
  | k :: l => if n ≤ 2000 then fewF (n + 1 + k.length) l else n
def fewB (ks : List (List Int)) (m : Nat) : Bool := decide (fewF m ks ≤ 2000)
theorem fewF_at (n : Nat) (ks : List (List Int)) (i : Nat) (h : i < ks.length) (hn : n ≤ 2000) : fewF n (ks.drop i) = fewF (n + 1 + ks[i].length) (ks.drop (i + 1)) := by
  rw [List.drop_eq_getElem_cons h, fewF, if_pos hn]
theorem fewF_big (n : Nat) (ks : List (List Int)) (hn : ¬ n ≤ 2000) : fewF n ks = n := by
  cases ks with
  | nil => rfl
  | cons k l => rw [fewF, if_neg hn]
theorem fewF_end (n : Nat) (ks : List (List Int)) (i : Nat) (h : ks.length ≤ i) : fewF n (ks.drop i) = n := by
  rw [List.drop_eq_nil_of_le h]; rfl
theorem fewF_sum : ∀ (ks : List (List Int)) (n : Nat), fewF n ks ≤ 2000 → n + ks.length + ks.flatten.length ≤ 2000
  | [], n, h => by simpa [fewF] using h
  | k :: l, n, h => by
    rw [fewF] at h
    by_cases hn : n ≤ 2000
    · rw [if_pos hn] at h
      have := fewF_sum l _ h
      rw [List.length_cons, List.flatten_cons, List.length_append]; omega
    · rw [if_neg hn] at h; omega
theorem few_sum {ks : List (List Int)} {m : Nat} (h : fewB ks m = true) : m + ks.length + ks.flatten.length ≤ 2000 := fewF_sum ks m (of_decide_eq_true h)

set_option maxRecDepth 100000 in
set_option maxHeartbeats 1000000 in
theorem refFew_any (A S : Option Addr) (n c m d : Nat) (ks : List (List Int)) (w : World) (hn : n = ks.length) (hk : Keys w w.heap.size A ks) (hl : ks.length ≤ 1152921504606846976) (hs : ∀ k ∈ ks, k.length ≤ 1152921504606846976) (hm : m ≤ 1152921504606846976) :
    Calls Tryz.prog 58 #[.agg #[.slice A n c, .slice S m d]] w fun e w' => e = .returned (.bool (fewB ks m)) ∧ Q w w' := by
  subst hn
  have q0 := (Q.refl w).alloc (Obj.cells #[Value.slice A ks.length c, Value.slice S m d] 26)
  have Hk := Lib.hid (hk.q (Nat.le_refl _) q0)
  clear hk
  go_enter Tryz.func58, Tryz.ntmps58
  go_wp2_with fail
  have c0 : (w.alloc (Obj.cells #[Value.slice A ks.length c, Value.slice S m d] 26)).cell? ⟨w.heap.size, 0, none⟩ = some (.slice A ks.length c) := by simp
  generalize w.alloc (Obj.cells #[Value.slice A ks.length c, Value.slice S m d] 26) = W at *
  go_loopw [3, 4] (fun s i wr => ∃ (k a : Nat), k ≤ ks.length ∧ i = .int .i64 k ∧ s = .int .i64 a ∧ a ≤ 2305843009213693952 ∧ Hid (fewF m ks = fewF a (ks.drop k)) ∧ W = wr) (fun _ i _ => ks.length - (intOf i).toNat)
  case atStart => exact ⟨0, m, Nat.zero_le _, rfl, rfl, by omega, Lib.hid (by simp), rfl⟩
  case round =>
    obtain ⟨k, a, hk, rfl, rfl, ha, HF, rfl⟩ := hrel
    by_cases hlt : k < ks.length
    · by_cases h2 : a ≤ 2000
      · obtain ⟨ad, rfl, hb, a1, c1, _, k0, _⟩ := Hk.out.at_ hlt
        have HS := Lib.hid (fewF_at a ks k hlt h2)
        have hs1 := hs _ (List.getElem_mem hlt)
        go_wp2_with fail
        go_roundw
        case rel => exact ⟨k + 1, a + 1 + ks[k].length, by omega, by go_num, by go_num, by omega, Lib.hid (HF.out.trans HS.out), trivial⟩
        case measure => simp [intOf]; omega
      · have HS := Lib.hid (fewF_big a (ks.drop k) h2)
        have HR : Hid (fewB ks m = false) := by unfold Hid fewB; rw [HF.out, HS.out]; exact decide_eq_false h2
        go_wp2_with fail
        go_ret
        exact ⟨by rw [HR.out]; simp; omega, q0⟩
    · have HS := Lib.hid (fewF_end a ks k (by omega))
      have HR : Hid (fewB ks m = decide (a ≤ 2000)) := by unfold Hid fewB; rw [HF.out, HS.out]
      go_wp2_with fail
      go_ret
      exact ⟨by rw [HR.out]; simp; omega, q0⟩
end Go.Proofs.YtnifmfdlocgefaaGreat.Hs

namespace Go.Proofs.YtnifmfdlocgefaaGreat.Hs
open Go.RowKit Kit

theorem lay_lt (ks : List (List Int)) : ks.length < (layI ks).length := by rw [layI_length]; exact sizeN_gt _
theorem findR_any (A S E : Option Addr) (n c m d ke ce : Nat) (ks : List (List Int)) (key : List Int) (w : World) (hn : n = ks.length) (hm : m = (layI ks).length) (hke : ke = key.length) (hk : Keys w w.heap.size A ks) (hS : Ints w w.heap.size S (layI ks)) (he : Ints w w.heap.size E key)
    (hd : Dist ks) (hs : ∀ k ∈ ks, k.length ≤ maxLen) (hkl : key.length ≤ maxLen) (hl : ks.length ≤ 5000) :
    Calls Tryz.prog 191 #[.agg #[.slice A n c, .slice S m d], .slice E ke ce] w fun e w' => e = .returned (.int .i64 (atI ks key)) ∧ Q w w' := by
  have hz : (layI ks).length ≤ 100000 := by rw [layI_length]; have := sizeN_le ks.length; omega
  have h := find_any A S E n c m d ke ce ks (layI ks) key w hn hm hke hk hS he hs hkl (by omega)
  rcases atI_cases ks key with ⟨h1, h2⟩ | ⟨i, h1, h2⟩
  · rw [(find_not (lay_inv ks) (lay_lt ks) h2).2] at h
    rw [h1]; exact h
  · obtain ⟨s, _, h4⟩ := find_there (lay_inv ks) hd (by omega) h1
    rw [h4] at h
    rw [h2]; exact h

end Go.Proofs.YtnifmfdlocgefaaGreat.Hs

namespace Go.Proofs.YtnifmfdlocgefaaGreat.Hs
open Go.RowKit Kit

end Go.Proofs.YtnifmfdlocgefaaGreat.Hs

namespace Go.Proofs.YtnifmfdlocgefaaGreat.Hs
open Go.RowKit Kit

def rdF (ks : List (List Int)) : List (List Int) → Nat → Bool
  | [], _ => true
  | k :: l, i => (atI ks k == (i : Int)) && rdF ks l (i + 1)
def rightB (ks : List (List Int)) (sl : List Int) : Bool := rdF ks ks 0 && eqL sl (layI ks)
theorem rdF_at (ks : List (List Int)) (i : Nat) (h : i < ks.length) : rdF ks (ks.drop i) i = ((atI ks ks[i] == (i : Int)) && rdF ks (ks.drop (i + 1)) (i + 1)) := by
  rw [List.drop_eq_getElem_cons h]; rfl
theorem rdF_end (ks : List (List Int)) (i : Nat) (h : ks.length ≤ i) : rdF ks (ks.drop i) i = true := by
  rw [List.drop_eq_nil_of_le h]; rfl
theorem rdF_get (ks : List (List Int)) : ∀ (l : List (List Int)) (k : Nat), rdF ks l k = true → ∀ (i : Nat) (x : List Int), l[i]? = some x → atI ks x = ((k + i : Nat) : Int)
  | [], _, _, i, x, hx => by simp at hx
  | y :: l, k, h, i, x, hx => by
    simp only [rdF, Bool.and_eq_true, beq_iff_eq] at h
    cases i with
    | zero => obtain rfl : y = x := by simpa using hx
              rw [h.1]; rfl
    | succ i => rw [rdF_get ks l (k + 1) h.2 i x (by simpa using hx)]; congr 1; omega
theorem rdF_dist {ks : List (List Int)} (h : rdF ks ks 0 = true) : Dist ks := fun i j x hi hj => by
  have h1 := rdF_get ks ks 0 h i x hi
  have h2 := rdF_get ks ks 0 h j x hj
  omega
theorem rdF_of {ks : List (List Int)} (hd : Dist ks) : ∀ (l : List (List Int)) (k : Nat), (∀ (i : Nat) (x : List Int), l[i]? = some x → ks[k + i]? = some x) → rdF ks l k = true
  | [], _, _ => rfl
  | y :: l, k, h => by
    simp only [rdF, Bool.and_eq_true, beq_iff_eq]
    refine ⟨atI_some hd (by simpa using h 0 y rfl), rdF_of hd l (k + 1) fun i x hx => ?_⟩
    have := h (i + 1) x (by simpa using hx)
    rwa [show k + 1 + i = k + (i + 1) by omega]
theorem right_iff (ks : List (List Int)) (sl : List Int) : rightB ks sl = true ↔ Dist ks ∧ sl = layI ks := by
  unfold rightB
  rw [Bool.and_eq_true, eqL_iff]
  exact ⟨fun h => ⟨rdF_dist h.1, h.2⟩, fun h => ⟨rdF_of h.1 ks 0 fun i x hx => by simpa using hx, h.2⟩⟩

set_option maxRecDepth 100000 in
set_option maxHeartbeats 1000000 in
theorem refRight_any (A S : Option Addr) (n c m d : Nat) (ks : List (List Int)) (sl : List Int) (w : World) (hn : n = ks.length) (hm : m = sl.length) (hk : Keys w w.heap.size A ks) (hS : Ints w w.heap.size S sl) (hs : ∀ k ∈ ks, k.length ≤ maxLen) (hl : ks.length ≤ 5000) (hsl : sl.length ≤ maxLen) :
    Calls Tryz.prog 93 #[.agg #[.slice A n c, .slice S m d]] w fun e w' => e = .returned (.bool (rightB ks sl)) ∧ Q w w' := by
  subst hn
  subst hm
  have q0 := (Q.refl w).alloc (Obj.cells #[Value.slice A ks.length c, Value.slice S sl.length d] 26)
  have Hk := Lib.hid ((hk.q (Nat.le_refl _) q0).more q0.size)
  have HS := Lib.hid ((hS.q (Nat.le_refl _) q0).more q0.size)
  have Hs := Lib.hid hs
  clear hk hS hs
  go_enter Tryz.func93, Tryz.ntmps93
  go_wp2_with fail
  have k0 : (w.alloc (Obj.cells #[Value.slice A ks.length c, Value.slice S sl.length d] 26)).cell? ⟨w.heap.size, 0, none⟩ = some (.slice A ks.length c) := by simp
  have k1 : (w.alloc (Obj.cells #[Value.slice A ks.length c, Value.slice S sl.length d] 26)).cell? ⟨w.heap.size, 1, none⟩ = some (.slice S sl.length d) := by simp
  have hlt : w.heap.size < (w.alloc (Obj.cells #[Value.slice A ks.length c, Value.slice S sl.length d] 26)).heap.size := by simp
  generalize w.alloc (Obj.cells #[Value.slice A ks.length c, Value.slice S sl.length d] 26) = W0 at *
  go_loopw [3] (fun i wr => ∃ k : Nat, k ≤ ks.length ∧ i = .int .i64 k ∧ Hid (rdF ks ks 0 = rdF ks (ks.drop k) k) ∧ Hid (∃ d, wr = W0.drewN d)) (fun i _ => ks.length - (intOf i).toNat)
  case atStart => exact ⟨0, Nat.zero_le _, rfl, Lib.hid rfl, Lib.hid ⟨0, rfl⟩⟩
  case round =>
    obtain ⟨k, hkl, rfl, HF, HD⟩ := hrel
    have k0r : wr.cell? ⟨w.heap.size, 0, none⟩ = some (.slice A ks.length c) := by obtain ⟨d, rfl⟩ := HD.out; exact k0
    have k1r : wr.cell? ⟨w.heap.size, 1, none⟩ = some (.slice S sl.length d) := by obtain ⟨d, rfl⟩ := HD.out; exact k1
    have Hkr : Hid (Keys wr wr.heap.size A ks) := by obtain ⟨d, rfl⟩ := HD.out; exact Hk.out
    have HSr : Hid (Ints wr wr.heap.size S sl) := by obtain ⟨d, rfl⟩ := HD.out; exact HS.out
    have qr : Q W0 wr := Q.of_drewN HD.out
    clear k0 k1 Hk HS
    by_cases hlt2 : k < ks.length
    · obtain ⟨ad, rfl, hb, a, c1, _, c0, hi⟩ := Hkr.out.at_ hlt2
      have HS2 := Lib.hid (rdF_at ks k hlt2)
      have C : Hid (∀ n, Calls Tryz.prog 94 #[.slice (some ad) ks.length c, .slice a ks[k].length c1] (wr.drewN n) fun e w' => e = .returned (.int .i64 (atI ks ks[k])) ∧ ∃ m', w' = (wr.drewN n).drewN m') := fun n =>
        refAt_any (some ad) a _ c _ c1 ks ks[k] (wr.drewN n) rfl rfl Hkr.out hi (by unfold maxLen; omega) Hs.out
      have j0 : (0 : Int) ≤ (k : Int) := Int.natCast_nonneg _
      have j1 : (k : Int) < (ks.length : Int) := by omega
      clear hi
      cases he : (atI ks ks[k] == (k : Int))
      · have hne : (atI ks ks[k] != (k : Int)) = true := by simpa using he
        have HR : Hid (rightB ks sl = false) := by unfold Hid rightB; rw [HF.out, HS2.out, he]; rfl
        clear he
        go_wp2_with fail
        go_quiet (first | (go_at_call 94; exact Calls.quiet_of (C.out _)))
        go_wp2_with fail
        go_ret
        exact ⟨by rw [HR.out]; rfl, (q0.trans qr).drewN _⟩
      · have hne : (atI ks ks[k] != (k : Int)) = false := by simpa using he
        have HR : Hid (rdF ks (ks.drop k) k = rdF ks (ks.drop (k + 1)) (k + 1)) := by unfold Hid; rw [HS2.out, he]; rfl
        clear he
        go_wp2_with fail
        go_quiet (first | (go_at_call 94; exact Calls.quiet_of (C.out _)))
        go_wp2_with fail
        go_roundw
        case rel => exact ⟨k + 1, by omega, by go_num, Lib.hid (HF.out.trans HR.out), Lib.hid (by obtain ⟨d, rfl⟩ := HD.out; exact ⟨_, drewN_add' _ _ _⟩)⟩
        case measure => simp [intOf]; omega
    · have HR : Hid (rightB ks sl = eqL sl (layI ks)) := by unfold Hid rightB; rw [HF.out, rdF_end ks k (by omega)]; rfl
      have hltr : w.heap.size < wr.heap.size := by have := qr.size; omega
      have HLl : Hid (sizeN ks.length = (layI ks).length) := Lib.hid (layI_length ks).symm
      go_wp2_with fail
      go_region_held3 (fun w' => w'.cell? ⟨w.heap.size, 0, none⟩ = some (.slice A ks.length c) ∧ w'.cell? ⟨w.heap.size, 1, none⟩ = some (.slice S sl.length d))
        (first
          | go_keep
          | exact ⟨(p1.cell (p := ⟨w.heap.size, 0, none⟩) hltr).trans k0r, (p1.cell (p := ⟨w.heap.size, 1, none⟩) hltr).trans k1r⟩
          | exact ⟨((p1.trans q2).cell (p := ⟨w.heap.size, 0, none⟩) hltr).trans k0r, ((p1.trans q2).cell (p := ⟨w.heap.size, 1, none⟩) hltr).trans k1r⟩)
        (first
          | (go_at_call 54; refine (refLay_any _ _ _ ks _ rfl (by exact Hkr.out) (by omega) Hs.out).mono ?_; rintro e w1 ⟨g, rfl, hg, hO, q1⟩; have HO := Lib.hid hO; clear hO; have p1 := (Q.refl wr).drew.trans q1)
          | (go_at_call 19; refine (refInts_any _ _ _ _ _ _ sl (layI ks) _ rfl HLl.out (by exact ((HSr.out.q (Nat.le_refl _) p1).more p1.size)) (by exact HO.out.ints) hsl).mono ?_; rintro e w2 ⟨rfl, hd2⟩; have q2 := Q.of_drewN hd2; clear hd2))
      go_wp2_with fail
      go_ret
      exact ⟨by rw [HR.out]; rfl, ((q0.trans qr).trans p1).trans q2⟩
end Go.Proofs.YtnifmfdlocgefaaGreat.Hs

namespace Go.Proofs.YtnifmfdlocgefaaGreat.Hs
open Go.ChangeShapes Go.WideShapes Go.RowKit Kit Go.Deep Go.Joins

theorem bytes_int : Tryz.prog.bytesOf 3 = 8 := by kernel_rfl
theorem bytes_ints : Tryz.prog.bytesOf 24 = 24 := by kernel_rfl
theorem cells_int : Tryz.prog.cellsOf 3 = 1 := by kernel_rfl
theorem cells_ints : Tryz.prog.cellsOf 24 = 1 := by kernel_rfl
theorem weights_all {H : Type} {P : Program} {e : TypeId} : ∀ {ds : List (DataW H)} {d : DataW H}, d ∈ ds → ∀ n ∈ d.weights P e, n ∈ DataW.weightsAll P e ds
  | x :: l, d, h, n, hn => by
    simp only [DataW.weightsAll, List.mem_append]
    rcases List.mem_cons.1 h with rfl | h
    · exact .inl hn
    · exact .inr (weights_all h n hn)

section
variable {H : Type} {enc : TypeId × Value → H} {W : World} {base : Nat}
set_option maxRecDepth 100000 in
theorem open_row_cells {fuel : Nat} {v : Value} {x : DataW H × List MemPlace} (h : DataW.trod enc Tryz.prog W 0 (fun _ => true) true fuel 24 [v] = some x) (hz : ∀ n ∈ x.1.weights Tryz.prog 24, n ≤ reachBytes) :
    ∃ A n c l, v = .slice A n c ∧ n = l.length ∧ n ≤ c ∧ Ints W W.heap.size A l ∧ l.length ≤ 1152921504606846976 := by
  rcases open_ints Tryz.underlying24 Tryz.underlying3 cells_int h with ⟨hcs, hx⟩ | ⟨a, len, cap, zs, hcs, _, hl, _, hlen, hx, hcell, _⟩
  · obtain rfl : v = .slice none 0 0 := by simpa using hcs
    exact ⟨none, 0, 0, [], rfl, rfl, Nat.le_refl _, fun h => absurd h (by simp), by simp⟩
  · obtain rfl : v = .slice (some a) len cap := by simpa using hcs
    simp only [if_true] at hlen
    have hw : (((lits .i64 (zs.take len) : List (DataW H))).length + ((lits .i64 (zs.drop len) : List (DataW H))).length) * Tryz.prog.bytesOf 3 ≤ reachBytes := by
      refine hz _ ?_
      rw [hx]
      simp [DataW.weights, Tryz.underlying24]
    rw [bytes_int] at hw
    have hll : (zs.take len).length = len := by rw [List.length_take, hlen]; omega
    refine ⟨_, _, _, zs.take len, rfl, hll.symm, hl, fun h0 => ⟨a, rfl, ?_, fun i y hy => ?_⟩, ?_⟩
    · have := hcell 0 (by omega)
      have := World.block_lt_of_cell? W _ this
      rwa [add_block] at this
    · have hi : i < len := by have := (List.getElem?_eq_some_iff.1 hy).1; omega
      rw [List.getElem?_take, if_pos hi] at hy
      rw [hcell i (by omega)]
      simp [hy]
    · simp [lits, reachBytes] at hw
      rw [hll]; omega
set_option maxRecDepth 100000 in
theorem open_rows_cells {fuel : Nat} {v : Value} {x : DataW H × List MemPlace} (h : DataW.trod enc Tryz.prog W 0 (fun _ => true) true fuel 23 [v] = some x) (hz : ∀ n ∈ x.1.weights Tryz.prog 23, n ≤ reachBytes) :
    ∃ A n c ks, v = .slice A n c ∧ n = ks.length ∧ Keys W W.heap.size A ks ∧ ks.length ≤ 1152921504606846976 ∧ ∀ k ∈ ks, k.length ≤ 1152921504606846976 := by
  rcases open_int_rows Tryz.underlying23 Tryz.underlying24 Tryz.underlying3 cells_ints cells_int h with ⟨hcs, hx⟩ | ⟨a, len, cap, A, L, C, Z, hcs, _, hl, _, hx, hi⟩
  · obtain rfl : v = .slice none 0 0 := by simpa using hcs
    exact ⟨none, 0, 0, [], rfl, rfl, fun h => absurd h (by simp), by simp, by simp⟩
  · obtain rfl : v = .slice (some a) len cap := by simpa using hcs
    have hwr : ∀ r, r < len → ∀ n ∈ (intRow .i64 (A r) (L r) (Z r) : DataW H).weights Tryz.prog 24, n ≤ reachBytes := fun r hr n hn => by
      refine hz _ ?_
      rw [hx]
      simp only [DataW.weights, Tryz.underlying23, List.mem_cons, List.mem_append]
      exact .inr (.inl (weights_all (List.mem_map.2 ⟨r, by simpa using hr, rfl⟩) n hn))
    have hlen : len ≤ 1152921504606846976 := by
      have := hz ((((List.range len).map fun r => (intRow .i64 (A r) (L r) (Z r) : DataW H)).length + ((List.range (cap - len)).map fun j => (intRow .i64 (A (len + j)) (L (len + j)) (Z (len + j)) : DataW H)).length) * Tryz.prog.bytesOf 24) (by
        rw [hx]
        simp only [DataW.weights, Tryz.underlying23]
        exact List.mem_cons_self ..)
      rw [bytes_ints] at this
      simp [reachBytes] at this
      omega
    have hL : ∀ r, r < len → L r ≤ 1152921504606846976 := fun r hr => by
      obtain ⟨_, h1, _, h3, _, h5, _⟩ := hi r (by omega)
      cases hA : A r with
      | none => have := h5 hA; omega
      | some a' =>
        have := hwr r hr (((lits .i64 ((Z r).take (L r)) : List (DataW H)).length + (lits .i64 ((Z r).drop (L r)) : List (DataW H)).length) * Tryz.prog.bytesOf 3) (by
          rw [hA]
          simp [intRow, DataW.weights, Tryz.underlying24])
        rw [bytes_int] at this
        simp [lits, reachBytes] at this
        omega
    have hT : ∀ r, r < len → ((Z r).take (L r)).length = L r := fun r hr => by
      obtain ⟨_, h1, _, h3, _⟩ := hi r (by omega)
      rw [List.length_take]; omega
    refine ⟨_, _, _, (List.range len).map fun r => (Z r).take (L r), rfl, by simp, fun h0 => ⟨a, rfl, ?_, fun i k hk => ?_⟩, by simpa using hlen, fun k hk => ?_⟩
    · have h0' : 0 < len := by simpa using h0
      have := (hi 0 (by omega)).1
      have := World.block_lt_of_cell? W _ this
      rwa [add_block] at this
    · have hil : i < len := by have := (List.getElem?_eq_some_iff.1 hk).1; simpa using this
      obtain rfl : (Z i).take (L i) = k := by simpa [hil] using hk
      obtain ⟨h0', h1, _, h3, _, h5, h6⟩ := hi i (by omega)
      rw [hT i hil]
      refine ⟨A i, C i, h1, h0', fun hp => ?_⟩
      rw [hT i hil] at hp
      cases hA : A i with
      | none => have := h5 hA; omega
      | some a' =>
        obtain ⟨_, hc⟩ := h6 a' hA
        refine ⟨a', rfl, ?_, fun j y hy => ?_⟩
        · have := World.block_lt_of_cell? W _ (hc 0 (by omega))
          rwa [add_block] at this
        · have hj : j < L i := by have := (List.getElem?_eq_some_iff.1 hy).1; rw [hT i hil] at this; exact this
          rw [List.getElem?_take, if_pos hj] at hy
          rw [hc j (by omega)]
          simp [hy]
    · obtain ⟨r, hr, rfl⟩ := List.mem_map.1 hk
      have hr' : r < len := by simpa using hr
      rw [hT r hr']
      exact hL r hr'
end
end Go.Proofs.YtnifmfdlocgefaaGreat.Hs

namespace Go.Proofs.YtnifmfdlocgefaaGreat.Hs
open Go.RowKit Kit

structure BoxT (W : World) (B : Nat) (a b : Value) : Prop where
  c0 : W.cell? ⟨B, 0, none⟩ = some a
  c1 : W.cell? ⟨B, 1, none⟩ = some b
  lt : B < W.heap.size
theorem BoxT.q {W W' : World} {B : Nat} {a b : Value} (h : BoxT W B a b) (q : Q W W') : BoxT W' B a b :=
  ⟨(q.cell (p := ⟨B, 0, none⟩) h.lt).trans h.c0, (q.cell (p := ⟨B, 1, none⟩) h.lt).trans h.c1, Nat.lt_of_lt_of_le h.lt q.size⟩
theorem BoxT.new (w : World) (a b : Value) (t : TypeId) : BoxT (w.alloc (.cells #[a, b] t)) w.heap.size a b := ⟨by simp, by simp, by simp⟩
end Go.Proofs.YtnifmfdlocgefaaGreat.Hs

namespace Go.Proofs.YtnifmfdlocgefaaGreat.Hs
open Go.RowKit Kit

end Go.Proofs.YtnifmfdlocgefaaGreat.Hs
