/-
  Contracts of slices.Grow (of nothing), slices.Concat and slices.Clone: rows of the call's own.
-/
import Derived.Test.YtgnbempkobgeiaaHashD
import Derived.Test.YtgnbempkobgeiaaKitRows
import Derived.Lib.AppendZeros
import Derived.Lib.SliceRun
namespace Go.Proofs.Ytgnbempkobgeiaa.Hs
open Go.RowKit Kit

/-- a slice value that reads these cells, below block B -/
def SrcB (w : World) (B : Nat) (A : Option Addr) (cs : List Value) : Prop := 0 < cs.length → ∃ ad, A = some ad ∧ ad.block < B ∧ ∀ j v, cs[j]? = some v → w.cell? (ad.add j) = some v
theorem SrcB.keep {w w' : World} {B : Nat} {A : Option Addr} {l : List Value} (h : SrcB w B A l) (hb : Below B w w') : SrcB w' B A l := fun h0 => by
  obtain ⟨ad, e, hlt, hc⟩ := h h0
  exact ⟨ad, e, hlt, fun i s hs => (hb.cell (by rw [add_block]; exact hlt)).trans (hc i s hs)⟩
theorem SrcB.src {w : World} {B : Nat} {A : Option Addr} {l : List Value} (h : SrcB w B A l) : Src w A l := fun h0 => by
  obtain ⟨ad, e, _, hc⟩ := h h0
  exact ⟨ad, e, hc⟩
theorem SrcB.more {w : World} {B B' : Nat} {A : Option Addr} {l : List Value} (h : SrcB w B A l) (hB : B ≤ B') : SrcB w B' A l := fun h0 => by
  obtain ⟨ad, e, hlt, hc⟩ := h h0
  exact ⟨ad, e, by omega, hc⟩
/-- a slice value that reads as these rows of cells, below block B -/
def Rws (w : World) (B : Nat) (A : Option Addr) (rs : List (List Value)) : Prop :=
  0 < rs.length → ∃ ad, A = some ad ∧ ad.block < B ∧ ∀ i r, rs[i]? = some r → ∃ a c, w.cell? (ad.add i) = some (.slice a r.length c) ∧ SrcB w B a r
theorem Rws.keep {w w' : World} {B : Nat} {A : Option Addr} {l : List (List Value)} (h : Rws w B A l) (hb : Below B w w') : Rws w' B A l := fun h0 => by
  obtain ⟨ad, e, hlt, hc⟩ := h h0
  refine ⟨ad, e, hlt, fun i s hs => ?_⟩
  obtain ⟨a, c, c0, hi⟩ := hc i s hs
  exact ⟨a, c, (hb.cell (by rw [add_block]; exact hlt)).trans c0, hi.keep hb⟩
theorem Rws.at_ {w : World} {B : Nat} {A : Option Addr} {l : List (List Value)} (h : Rws w B A l) {k : Nat} (hk : k < l.length) :
    ∃ ad, A = some ad ∧ ad.block < B ∧ ∃ a c, w.cell? (ad.add k) = some (.slice a l[k].length c) ∧ SrcB w B a l[k] := by
  obtain ⟨ad, e, hlt, hc⟩ := h (by omega)
  exact ⟨ad, e, hlt, hc k l[k] (List.getElem?_eq_getElem hk)⟩

/-- how many cells the first k rows have -/
def upTo (rs : List (List Value)) (k : Nat) : List Value := (rs.take k).flatten
theorem upTo_succ (rs : List (List Value)) (k : Nat) (h : k < rs.length) : upTo rs (k + 1) = upTo rs k ++ rs[k] := by
  unfold upTo
  rw [List.take_succ_eq_append_getElem h, List.flatten_append]
  simp
theorem upTo_all (rs : List (List Value)) (k : Nat) (h : rs.length ≤ k) : upTo rs k = rs.flatten := by unfold upTo; rw [List.take_of_length_le h]
theorem upTo_le (rs : List (List Value)) (k : Nat) : (upTo rs k).length ≤ rs.flatten.length := by
  have e : rs.flatten = upTo rs k ++ (rs.drop k).flatten := by unfold upTo; rw [← List.flatten_append, List.take_append_drop]
  rw [e, List.length_append]; omega

theorem sliceInfo : (Try.prog.info? 24).map (fun i => (i.zero, i.size, i.bytes)) = some (some (.slice none 0 0), 1, 24) := by kernel_rfl
def GrowPost (E : TypeId) (w : World) (e : Ending) (w' : World) : Prop := ∃ v, e = .returned v ∧ w'.ownsRow w.heap.size E 1 v 0 [] ∧ Q w w'
def ConcatPost (E : TypeId) (rs : List (List Value)) (w : World) (e : Ending) (w' : World) : Prop := ∃ v, e = .returned v ∧ w'.ownsRow w.heap.size E 1 v rs.flatten.length rs.flatten ∧ Q w w'

set_option maxHeartbeats 1000000 in
theorem growK_any (n : Nat) (w : World) (hn : n ≤ 100000) : Calls Try.prog 72 #[.slice none 0 0, .int .i64 (n : Int)] w (GrowPost 24 w) := by
  obtain ⟨i0, hi, hz0, hz1, hz2⟩ := info_parts sliceInfo
  by_cases h0 : n = 0
  · subst h0
    clear hi hz0 hz1 hz2
    go_enter Try.func72, Try.ntmps72
    go_wp2_with fail
    go_ret
    exact ⟨_, rfl, World.ownsRow_nil _ _ _ _, Q.refl _⟩
  · have hrz := fun ty => Lib.run_append_nil_zeros (P := Try.prog) w 23 3 ty 24 i0 _ .i64 .i64 Try.underlying23 Try.underlying3 hi hz0 n (by omega) (by omega) (by omega) (by rw [hz2]; omega)
    have hge := grownCap_ge w n 0 24
    have hle := grownCap_le_maxLen w n 0 24 (by unfold maxLen; omega)
    obtain ⟨cap, hcap⟩ : ∃ cap, cap = grownCap w n 0 24 := ⟨_, rfl⟩
    rw [← hcap] at hrz hge hle
    have HL := Lib.hid hle
    have h1 : 0 < n := by omega
    obtain ⟨O, hO⟩ : ∃ O, O = Builtin.zeroCells (Value.slice none 0 0).cells n ++ Builtin.zeroCells (Value.slice none 0 0).cells (cap - n) := ⟨_, rfl⟩
    have hsz : O.size = cap := by rw [hO]; simp [Builtin.zeroCells, Value.cells]; omega
    rw [← hO] at hrz
    have Hsz := Lib.hid hsz
    clear hi hz0 hz1 hz2 hcap hO hsz h0 hle
    have Hrz := Lib.hid hrz
    clear hrz
    unfold maxLen at HL
    have hle := HL.out
    go_enter Try.func72, Try.ntmps72
    go_wp2_with (at_builtin; refine Lib.wpList_append_run _ rfl _ _ _ _ rfl _ _ rfl rfl _ _ (Hrz.out _) ?_)
    go_ret
    exact ⟨_, rfl, ⟨rfl, .inr ⟨w.heap.size, cap, O, rfl, Nat.le_refl _, heap_alloc_new w.drew _, by omega, by unfold maxLen; exact HL.out, by rw [Hsz.out]; omega, by simp⟩⟩, ((Q.refl w).drew).alloc _⟩

set_option maxHeartbeats 1000000 in
theorem concatK_any (A : Option Addr) (n c : Nat) (rs : List (List Value)) (w : World) (hn : n = rs.length) (hr : Rws w w.heap.size A rs) (hl : rs.length ≤ 10000) (ht : rs.flatten.length ≤ 100000) (h1 : ∀ r ∈ rs, ∀ u ∈ r, u.oneCell' = true) :
    Calls Try.prog 66 #[.slice A n c] w (ConcatPost 24 rs w) := by
  subst hn
  obtain ⟨i0, hi, hz0, hz1, hz2⟩ := info_parts sliceInfo
  have Hi := Lib.hid hi
  have Hz0 := Lib.hid hz0
  have Hz1 := Lib.hid hz1
  have Hz2 := Lib.hid hz2
  clear hi hz0 hz1 hz2
  go_enter Try.func66, Try.ntmps66
  go_wp2_with fail
  go_loopw [3, 11] (fun s i wr => ∃ k m : Nat, k ≤ rs.length ∧ i = .int .i64 k ∧ s = .int .i64 m ∧ m ≤ 100000 ∧ Hid (m = (upTo rs k).length) ∧ w = wr) (fun _ i _ => rs.length - (intOf i).toNat)
  case atStart => exact ⟨0, 0, Nat.zero_le _, rfl, rfl, by omega, Lib.hid rfl, rfl⟩
  case round =>
    obtain ⟨k, m, hk, rfl, rfl, hm, HM, rfl⟩ := hrel
    by_cases hlt : k < rs.length
    · obtain ⟨ad, rfl, hb, a, c1, c0, hs⟩ := hr.at_ hlt
      have HU := Lib.hid (upTo_succ rs k hlt)
      have hle := upTo_le rs (k + 1)
      have hb2 : m + rs[k].length ≤ 100000 := by rw [HU.out, List.length_append] at hle; have := HM.out; omega
      clear hr hs hle
      go_wp2_with fail
      go_roundw
      case rel => exact ⟨k + 1, m + rs[k].length, by omega, by go_num, by go_num, hb2, Lib.hid (by rw [HU.out, List.length_append, HM.out]), trivial⟩
      case measure => simp [intOf]; omega
    · go_wp2_with fail
      refine (growK_any _ _ hm).mono ?_
      rintro e w1 ⟨v, rfl, own, q1⟩
      have Hown := Lib.hid own
      clear own
      go_wp2_with fail
      go_loopw [6, 27] (fun v i wr => ∃ k : Nat, k ≤ rs.length ∧ i = .int .i64 k ∧ Hid (wr.ownsRow w.heap.size 24 1 v (upTo rs k).length (upTo rs k)) ∧ Q w wr) (fun _ i _ => rs.length - (intOf i).toNat)
      case atStart => exact ⟨0, Nat.zero_le _, rfl, Hown, q1⟩
      case round =>
        obtain ⟨k', hk', rfl, HO, qr⟩ := hrel
        by_cases hlt' : k' < rs.length
        · obtain ⟨ad, rfl, hb, a, c1, c0, hs⟩ := (hr.keep qr).at_ hlt'
          have Hs := Lib.hid hs
          have HU := Lib.hid (upTo_succ rs k' hlt')
          have hle := upTo_le rs (k' + 1)
          have Hb2 : Hid ((upTo rs k').length + rs[k'].length ≤ 100000) := by rw [HU.out, List.length_append] at hle; exact Lib.hid (by omega)
          have H1 := Lib.hid (h1 _ (List.getElem_mem hlt'))
          have hb' := Hb2.out
          clear hs hle
          go_wp2_with (at_builtin; refine wpList_append_src _ rfl (.tmp 31) (.tmp 32) _ rfl w.heap.size 24 i0 _ 1 24 Try.underlying23 Hi.out Hz0.out Hz1.out Hz2.out rfl (by omega) _ (upTo rs k').length (upTo rs k') rfl HO.out a rs[k'].length c1 rs[k'] rfl (by omega) Hs.out.src H1.out (by unfold maxLen; omega) (by omega) qr.size ?_; intro v' w' own' gr' _)
          have q2 : Q w w' := qr.grown gr' qr.size (fun b hb => (HO.out.lt b hb).1)
          have Ho := Lib.hid own'
          clear own' gr'
          go_wp2_with fail
          go_roundw
          case rel => exact ⟨k' + 1, by omega, by go_num, by rw [HU.out, List.length_append]; exact Ho, q2⟩
          case measure => simp [intOf]; omega
        · have HU := Lib.hid (upTo_all rs k' (by omega))
          go_wp2_with fail
          go_ret
          exact ⟨_, rfl, by rw [← HU.out]; exact HO.out, qr⟩

set_option maxHeartbeats 1000000 in
theorem growI_any (n : Nat) (w : World) (hn : n ≤ 100000) : Calls Try.prog 73 #[.slice none 0 0, .int .i64 (n : Int)] w (GrowPost 3 w) := by
  obtain ⟨i0, hi, hz0, hz1, hz2⟩ := info_parts intInfo
  by_cases h0 : n = 0
  · subst h0
    clear hi hz0 hz1 hz2
    go_enter Try.func73, Try.ntmps73
    go_wp2_with fail
    go_ret
    exact ⟨_, rfl, World.ownsRow_nil _ _ _ _, Q.refl _⟩
  · have hrz := fun ty => Lib.run_append_nil_zeros (P := Try.prog) w 24 3 ty 3 i0 _ .i64 .i64 Try.underlying24 Try.underlying3 hi hz0 n (by omega) (by omega) (by omega) (by rw [hz2]; omega)
    have hge := grownCap_ge w n 0 3
    have hle := grownCap_le_maxLen w n 0 3 (by unfold maxLen; omega)
    obtain ⟨cap, hcap⟩ : ∃ cap, cap = grownCap w n 0 3 := ⟨_, rfl⟩
    rw [← hcap] at hrz hge hle
    have HL := Lib.hid hle
    have h1 : 0 < n := by omega
    obtain ⟨O, hO⟩ : ∃ O, O = Builtin.zeroCells (Value.int .i64 0).cells n ++ Builtin.zeroCells (Value.int .i64 0).cells (cap - n) := ⟨_, rfl⟩
    have hsz : O.size = cap := by rw [hO]; simp [Builtin.zeroCells, Value.cells]; omega
    rw [← hO] at hrz
    have Hsz := Lib.hid hsz
    clear hi hz0 hz1 hz2 hcap hO hsz h0 hle
    have Hrz := Lib.hid hrz
    clear hrz
    unfold maxLen at HL
    have hle := HL.out
    go_enter Try.func73, Try.ntmps73
    go_wp2_with (at_builtin; refine Lib.wpList_append_run _ rfl _ _ _ _ rfl _ _ rfl rfl _ _ (Hrz.out _) ?_)
    go_ret
    exact ⟨_, rfl, ⟨rfl, .inr ⟨w.heap.size, cap, O, rfl, Nat.le_refl _, heap_alloc_new w.drew _, by omega, by unfold maxLen; exact HL.out, by rw [Hsz.out]; omega, by simp⟩⟩, ((Q.refl w).drew).alloc _⟩

set_option maxHeartbeats 1000000 in
theorem concatI_any (A : Option Addr) (n c : Nat) (rs : List (List Value)) (w : World) (hn : n = rs.length) (hr : Rws w w.heap.size A rs) (hl : rs.length ≤ 10000) (ht : rs.flatten.length ≤ 100000) (h1 : ∀ r ∈ rs, ∀ u ∈ r, u.oneCell' = true) :
    Calls Try.prog 67 #[.slice A n c] w (ConcatPost 3 rs w) := by
  subst hn
  obtain ⟨i0, hi, hz0, hz1, hz2⟩ := info_parts intInfo
  have Hi := Lib.hid hi
  have Hz0 := Lib.hid hz0
  have Hz1 := Lib.hid hz1
  have Hz2 := Lib.hid hz2
  clear hi hz0 hz1 hz2
  go_enter Try.func67, Try.ntmps67
  go_wp2_with fail
  go_loopw [3, 11] (fun s i wr => ∃ k m : Nat, k ≤ rs.length ∧ i = .int .i64 k ∧ s = .int .i64 m ∧ m ≤ 100000 ∧ Hid (m = (upTo rs k).length) ∧ w = wr) (fun _ i _ => rs.length - (intOf i).toNat)
  case atStart => exact ⟨0, 0, Nat.zero_le _, rfl, rfl, by omega, Lib.hid rfl, rfl⟩
  case round =>
    obtain ⟨k, m, hk, rfl, rfl, hm, HM, rfl⟩ := hrel
    by_cases hlt : k < rs.length
    · obtain ⟨ad, rfl, hb, a, c1, c0, hs⟩ := hr.at_ hlt
      have HU := Lib.hid (upTo_succ rs k hlt)
      have hle := upTo_le rs (k + 1)
      have hb2 : m + rs[k].length ≤ 100000 := by rw [HU.out, List.length_append] at hle; have := HM.out; omega
      clear hr hs hle
      go_wp2_with fail
      go_roundw
      case rel => exact ⟨k + 1, m + rs[k].length, by omega, by go_num, by go_num, hb2, Lib.hid (by rw [HU.out, List.length_append, HM.out]), trivial⟩
      case measure => simp [intOf]; omega
    · go_wp2_with fail
      refine (growI_any _ _ hm).mono ?_
      rintro e w1 ⟨v, rfl, own, q1⟩
      have Hown := Lib.hid own
      clear own
      go_wp2_with fail
      go_loopw [6, 27] (fun v i wr => ∃ k : Nat, k ≤ rs.length ∧ i = .int .i64 k ∧ Hid (wr.ownsRow w.heap.size 3 1 v (upTo rs k).length (upTo rs k)) ∧ Q w wr) (fun _ i _ => rs.length - (intOf i).toNat)
      case atStart => exact ⟨0, Nat.zero_le _, rfl, Hown, q1⟩
      case round =>
        obtain ⟨k', hk', rfl, HO, qr⟩ := hrel
        by_cases hlt' : k' < rs.length
        · obtain ⟨ad, rfl, hb, a, c1, c0, hs⟩ := (hr.keep qr).at_ hlt'
          have Hs := Lib.hid hs
          have HU := Lib.hid (upTo_succ rs k' hlt')
          have hle := upTo_le rs (k' + 1)
          have Hb2 : Hid ((upTo rs k').length + rs[k'].length ≤ 100000) := by rw [HU.out, List.length_append] at hle; exact Lib.hid (by omega)
          have H1 := Lib.hid (h1 _ (List.getElem_mem hlt'))
          have hb' := Hb2.out
          clear hs hle
          go_wp2_with (at_builtin; refine wpList_append_src _ rfl (.tmp 31) (.tmp 32) _ rfl w.heap.size 3 i0 _ 1 8 Try.underlying24 Hi.out Hz0.out Hz1.out Hz2.out rfl (by omega) _ (upTo rs k').length (upTo rs k') rfl HO.out a rs[k'].length c1 rs[k'] rfl (by omega) Hs.out.src H1.out (by unfold maxLen; omega) (by omega) qr.size ?_; intro v' w' own' gr' _)
          have q2 : Q w w' := qr.grown gr' qr.size (fun b hb => (HO.out.lt b hb).1)
          have Ho := Lib.hid own'
          clear own' gr'
          go_wp2_with fail
          go_roundw
          case rel => exact ⟨k' + 1, by omega, by go_num, by rw [HU.out, List.length_append]; exact Ho, q2⟩
          case measure => simp [intOf]; omega
        · have HU := Lib.hid (upTo_all rs k' (by omega))
          go_wp2_with fail
          go_ret
          exact ⟨_, rfl, by rw [← HU.out]; exact HO.out, qr⟩

def ClonePost (sl : List Int) (w : World) (e : Ending) (w' : World) : Prop :=
  ∃ A c, e = .returned (.slice A sl.length c) ∧ (0 < sl.length → ∃ g, A = some ⟨g, 0, none⟩ ∧ w.heap.size ≤ g ∧ OwnI w' g sl) ∧ Q w w'
def cellsI (sl : List Int) : List Value := sl.map (Value.int .i64)
theorem cellsI_get {sl : List Int} {j : Nat} {v : Value} (h : (cellsI sl)[j]? = some v) : ∃ x, sl[j]? = some x ∧ v = .int .i64 x := by
  unfold cellsI at h
  rw [List.getElem?_map, Option.map_eq_some_iff] at h
  obtain ⟨x, h1, h2⟩ := h
  exact ⟨x, h1, h2.symm⟩
theorem cellsI_one (sl : List Int) : ∀ u ∈ cellsI sl, u.oneCell' = true := fun u hu => by
  unfold cellsI at hu
  rw [List.mem_map] at hu
  obtain ⟨x, _, rfl⟩ := hu
  rfl
theorem Ints.srcB {w : World} {B : Nat} {A : Option Addr} {sl : List Int} (h : Ints w B A sl) : SrcB w B A (cellsI sl) := fun h0 => by
  obtain ⟨ad, e, hlt, hc⟩ := h (by simpa [cellsI] using h0)
  refine ⟨ad, e, hlt, fun j v hv => ?_⟩
  obtain ⟨x, hx, rfl⟩ := cellsI_get hv
  exact hc j x hx
theorem OwnI.of_own {w : World} {base g n cap : Nat} {e : TypeId} {sl : List Int} (h : w.ownsRow base e 1 (.slice (some ⟨g, 0, none⟩) n cap) n (cellsI sl)) : OwnI w g sl := by
  refine ⟨(h.lt g rfl).2, fun i x hx => ⟨?_, h.frozenAt i⟩⟩
  have := h.cells (g := g) rfl i (.int .i64 x) (by unfold cellsI; rw [List.getElem?_map, hx]; rfl)
  rwa [add_zero_head] at this

set_option maxHeartbeats 1000000 in
theorem clone_any (A : Option Addr) (n c : Nat) (sl : List Int) (w : World) (hn : n = sl.length) (hr : Ints w w.heap.size A sl) (hl : sl.length ≤ 100000) :
    Calls Try.prog 42 #[.slice A n c] w (ClonePost sl w) := by
  subst hn
  have heq := fun u => Lib.run_eql_slice_nil (P := Try.prog) u 24 3 A sl.length c 0 0 Try.underlying24
  cases A with
  | none =>
    have e : sl = [] := by
      rcases Nat.eq_zero_or_pos sl.length with h | h
      · exact List.eq_nil_of_length_eq_zero h
      · obtain ⟨_, e, _⟩ := hr h; cases e
    subst e
    have heq' : ∀ u, (binOp .eql 24 (.slice none 0 c) (.slice none 0 0)).run Try.prog u = .ok (.bool true) u := heq
    clear heq hr hl
    go_enter Try.func42, Try.ntmps42
    go_wp2_with fail
    go_ret
    exact ⟨none, 0, rfl, fun h => by simp at h, Q.refl _⟩
  | some ad =>
    have heq' : ∀ u, (binOp .eql 24 (.slice (some ad) sl.length c) (.slice none 0 0)).run Try.prog u = .ok (.bool false) u := heq
    obtain ⟨i0, hi, hz0, hz1, hz2⟩ := info_parts intInfo
    have Hi := Lib.hid hi
    have Hz0 := Lib.hid hz0
    have Hz1 := Lib.hid hz1
    have Hz2 := Lib.hid hz2
    have Hs := Lib.hid (hr.srcB.keep ((Q.refl w).alloc (Obj.cells #[] 3)))
    have Ho := Lib.hid (own_empty (base := w.heap.size) (e := 3) (size := 1) (Nat.le_refl _) (heap_alloc_new w (Obj.cells #[] 3)))
    clear heq hi hz0 hz1 hz2 hr
    go_enter Try.func42, Try.ntmps42
    go_wp2_with (at_builtin; refine wpList_append_src _ rfl (.tmp 5) (.tmp 6) _ rfl w.heap.size 3 i0 _ 1 8 Try.underlying24 Hi.out Hz0.out Hz1.out Hz2.out rfl (by omega) (.slice (some ⟨w.heap.size, 0, none⟩) 0 0) 0 [] rfl Ho.out (some ad) sl.length c (cellsI sl) rfl (by simp [cellsI]) Hs.out.src (cellsI_one sl) (by unfold maxLen; omega) (by omega) (by simp) ?_; intro v' w' own' gr' _)
    have q2 : Q w w' := ((Q.refl w).alloc (Obj.cells #[] 3)).grown gr' (by simp) (by simp [Value.ownBlock])
    rw [Nat.zero_add, List.nil_append] at own'
    have Ho' := Lib.hid own'
    clear own' gr'
    go_wp2_with fail
    go_ret
    have own' := Ho'.out
    have own2 := own'
    obtain ⟨_, ⟨rfl, hx⟩ | ⟨g, cap, cur, rfl, hg, _⟩⟩ := own'
    · have e : sl.length = 0 := hx
      exact ⟨none, 0, by rw [e]; rfl, fun h => by omega, q2⟩
    · exact ⟨_, cap, rfl, fun _ => ⟨g, rfl, hg, OwnI.of_own own2⟩, q2⟩
end Go.Proofs.Ytgnbempkobgeiaa.Hs
