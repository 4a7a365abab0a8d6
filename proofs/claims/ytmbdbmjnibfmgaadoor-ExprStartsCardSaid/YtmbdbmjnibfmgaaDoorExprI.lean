/-
  Contracts of the reader's small steps: leaf, join.
-/
import Derived.Test.YtmbdbmjnibfmgaaDoorExprH
import Derived.Deep.RegionLaw
namespace Go.Proofs.YtmbdbmjnibfmgaaDoor.Ex
open Go.RowKit Kit Rw
open Go.Proofs.YtmbdbmjnibfmgaaDoor.Nm

theorem nodeInfo : (Tryd.prog.info? 38).map (fun i => (i.zero, i.size, i.bytes)) = some (some (.agg #[.int .i64 0, .string ⟨#[]⟩, .int .i64 0]), 3, 32) := by kernel_rfl
theorem levelInfo : (Tryd.prog.info? 80).map (fun i => (i.zero, i.size, i.bytes)) = some (some (.agg #[.int .i64 0, .string ⟨#[]⟩, .int .i64 0, .string ⟨#[]⟩]), 4, 48) := by kernel_rfl

theorem own_slice {w : World} {base : Nat} {e : TypeId} {size : Nat} {v : Value} {n : Nat} {xs : List Value} (h : w.ownsRow base e size v n xs) (hn : 0 < n) : ∃ g cap, v = .slice (some ⟨g, 0, none⟩) n cap := by
  obtain ⟨_, ⟨_, h0⟩ | ⟨g, cap, cur, e, _⟩⟩ := h
  · omega
  · exact ⟨g, cap, e⟩
set_option maxRecDepth 100000 in
set_option maxHeartbeats 2000000 in
theorem leaf_any (W0 w : World) (B : Nat) (A : Option Addr) (c : Nat) (toks : List Tg) (p : Nat) (ns : List Tg) (ss : List Lv) (v u : Value) (t : Tg) (h : RS W0 w B A c toks p ns ss v u) (hp : p ≤ 1000000) (hn : ns.length ≤ 1000000) :
    Calls Tryd.prog 49 #[.pointer (some ⟨B, 0, none⟩), .agg #[.int .i64 t.1, .string t.2.1, .int .i64 t.2.2]] w fun e w' => e = .returned (.tuple #[.bool false, .int .i64 0]) ∧ ∃ v', RS W0 w' B A c toks (p + 1) (ns ++ [t]) ss v' u := by
  obtain ⟨i0, hi, hz0, hz1, hz2⟩ := info_parts nodeInfo
  have Hi := Lib.hid hi
  have Hz0 := Lib.hid hz0
  have Hz1 := Lib.hid hz1
  have Hz2 := Lib.hid hz2
  clear hi hz0 hz1 hz2
  have q1 := (Q.refl w).alloc (Obj.cells #[.int .i64 t.1, .string t.2.1, .int .i64 t.2.2] 38)
  have H1 := Lib.hid (h.more q1)
  have H2 := Lib.hid (h.more ((q1.alloc (Obj.cells #[.int .i64 t.1, .string t.2.1, .int .i64 t.2.2] 38)).drew))
  have HS : Hid (Src (((w.alloc (Obj.cells #[.int .i64 t.1, .string t.2.1, .int .i64 t.2.2] 38)).alloc (Obj.cells #[.int .i64 t.1, .string t.2.1, .int .i64 t.2.2] 38)).drew) (some ⟨w.heap.size + 1, 0, none⟩) [.int .i64 t.1, .string t.2.1, .int .i64 t.2.2]) := by
    have := src_alloc (w.alloc (Obj.cells #[.int .i64 t.1, .string t.2.1, .int .i64 t.2.2] 38)) [.int .i64 t.1, .string t.2.1, .int .i64 t.2.2] 38 (0, 0)
    have e : (w.alloc (Obj.cells #[.int .i64 t.1, .string t.2.1, .int .i64 t.2.2] 38)).heap.size = w.heap.size + 1 := by simp
    rw [e] at this
    exact this
  obtain ⟨b0, b1, b2, b3⟩ := H1.out.cells
  have b2' : ((w.alloc (Obj.cells #[.int .i64 t.1, .string t.2.1, .int .i64 t.2.2] 38)).alloc (Obj.cells #[.int .i64 t.1, .string t.2.1, .int .i64 t.2.2] 38)).cell? ⟨B, 2, none⟩ = some v := H2.out.cells.2.2.1
  clear q1 h
  go_enter Tryd.func49, Tryd.ntmps49
  go_wp2_with fail
  go_region_law (refine step_append_src _ rfl (.tmp 10) (.tmp 12) _ rfl W0.heap.size 38 i0 _ 3 32 Tryd.underlying22 Hi.out Hz0.out Hz1.out Hz2.out rfl (by omega) v ns.length (cellsG ns) rfl H2.out.nod (some ⟨w.heap.size + 1, 0, none⟩) 1 1 [.int .i64 t.1, .string t.2.1, .int .i64 t.2.2] rfl rfl HS.out (by simp [Value.oneCell']) (by unfold maxLen; omega) (by omega) H2.out.q.size ?_; intro v' w' own' gr' bl'; obtain ⟨g', cap', rfl⟩ := own_slice own' (by omega); have HA : Hid (RS W0 (w'.setCell ⟨B, 2, none⟩ (.slice (some ⟨g', 0, none⟩) (ns.length + 1) cap')) B A c toks p (ns ++ [t]) ss (.slice (some ⟨g', 0, none⟩) (ns.length + 1) cap') u) := H2.out.addNodes (xs := [t]) own' gr' bl'; have hb' := H2.out.box.grown gr' H2.out.vB; have k1 := (hb'.2 2 _ rfl).1; have k2 := (hb'.2 2 _ rfl).2; clear own' gr' bl' hb')
  all_goals
    obtain ⟨d0, d1, d2, d3⟩ := HA.out.cells
    obtain ⟨e1, e2, e3⟩ := HA.out.thaw
    have HB := Lib.hid (HA.out.setAt (p + 1))
    clear HA H1 H2 HS k1 k2 b0 b1 b2 b3 b2'
    generalize w'.setCell ⟨B, 2, none⟩ (.slice (some ⟨g', 0, none⟩) (ns.length + 1) cap') = W2 at *
    go_wp2_with fail
    go_ret2
    exact ⟨rfl, _, HB.out⟩

/-- the node of two parts, if a sign tells that there are two -/
def joinN (s : ByteArray) : List Tg := if s = ⟨#[124]⟩ then [(4, ⟨#[]⟩, 2)] else if s = ⟨#[38]⟩ then [(5, ⟨#[]⟩, 2)] else []
def SgnOk (s : ByteArray) : Prop := s = ⟨#[]⟩ ∨ s = ⟨#[124]⟩ ∨ s = ⟨#[38]⟩
theorem joinN_none : joinN ⟨#[]⟩ = [] := by decide
theorem joinN_bar : joinN ⟨#[124]⟩ = [(4, ⟨#[]⟩, 2)] := by decide
theorem joinN_amp : joinN ⟨#[38]⟩ = [(5, ⟨#[]⟩, 2)] := by decide
set_option maxRecDepth 100000 in
set_option maxHeartbeats 2000000 in
theorem join_any (W0 w : World) (B : Nat) (A : Option Addr) (c : Nat) (toks : List Tg) (p : Nat) (ns : List Tg) (ss : List Lv) (v u : Value) (s : ByteArray) (h : RS W0 w B A c toks p ns ss v u) (hs : SgnOk s) (hn : ns.length ≤ 1000000) :
    Calls Tryd.prog 53 #[.pointer (some ⟨B, 0, none⟩), .string s] w fun e w' => e = .returned (.tuple #[]) ∧ ∃ v', RS W0 w' B A c toks p (ns ++ joinN s) ss v' u := by
  obtain ⟨i0, hi, hz0, hz1, hz2⟩ := info_parts nodeInfo
  have Hi := Lib.hid hi
  have Hz0 := Lib.hid hz0
  have Hz1 := Lib.hid hz1
  have Hz2 := Lib.hid hz2
  clear hi hz0 hz1 hz2
  have H := Lib.hid h
  obtain ⟨b0, b1, b2, b3⟩ := h.cells
  clear h
  rcases hs with rfl | rfl | rfl
  · rw [joinN_none, List.append_nil]
    go_enter Tryd.func53, Tryd.ntmps53
    go_wp2_with fail
    go_end0
    exact ⟨rfl, v, H.out⟩
  · rw [joinN_bar]
    have H2 := Lib.hid (H.out.more ((Q.refl w).alloc (Obj.cells #[.int .i64 4, .string ⟨#[]⟩, .int .i64 2] 38)))
    have HS := Lib.hid (src_alloc w [.int .i64 4, .string ⟨#[]⟩, .int .i64 2] 38 (0, 0))
    go_enter Tryd.func53, Tryd.ntmps53
    go_wp2_with (at_builtin; refine wpList_append_src _ rfl (.tmp 11) (.tmp 13) _ rfl W0.heap.size 38 i0 _ 3 32 Tryd.underlying22 Hi.out Hz0.out Hz1.out Hz2.out rfl (by omega) v ns.length (cellsG ns) rfl H2.out.nod (some ⟨w.heap.size, 0, none⟩) 1 1 [.int .i64 4, .string ⟨#[]⟩, .int .i64 2] rfl rfl HS.out (by simp [Value.oneCell']) (by unfold maxLen; omega) (by omega) H2.out.q.size ?_; intro v' w' own' gr' bl'; obtain ⟨g', cap', rfl⟩ := own_slice own' (by omega); have HA : Hid (RS W0 (w'.setCell ⟨B, 2, none⟩ (.slice (some ⟨g', 0, none⟩) (ns.length + 1) cap')) B A c toks p (ns ++ [(4, ⟨#[]⟩, 2)]) ss (.slice (some ⟨g', 0, none⟩) (ns.length + 1) cap') u) := H2.out.addNodes (xs := [(4, ⟨#[]⟩, 2)]) own' gr' bl'; have hb' := H2.out.box.grown gr' H2.out.vB; have k1 := (hb'.2 2 _ rfl).1; have k2 := (hb'.2 2 _ rfl).2; clear own' gr' bl' hb')
    go_end0
    exact ⟨rfl, _, HA.out⟩
  · rw [joinN_amp]
    have H2 := Lib.hid (H.out.more ((Q.refl w).alloc (Obj.cells #[.int .i64 5, .string ⟨#[]⟩, .int .i64 2] 38)))
    have HS := Lib.hid (src_alloc w [.int .i64 5, .string ⟨#[]⟩, .int .i64 2] 38 (0, 0))
    go_enter Tryd.func53, Tryd.ntmps53
    go_wp2_with (at_builtin; refine wpList_append_src _ rfl (.tmp 23) (.tmp 25) _ rfl W0.heap.size 38 i0 _ 3 32 Tryd.underlying22 Hi.out Hz0.out Hz1.out Hz2.out rfl (by omega) v ns.length (cellsG ns) rfl H2.out.nod (some ⟨w.heap.size, 0, none⟩) 1 1 [.int .i64 5, .string ⟨#[]⟩, .int .i64 2] rfl rfl HS.out (by simp [Value.oneCell']) (by unfold maxLen; omega) (by omega) H2.out.q.size ?_; intro v' w' own' gr' bl'; obtain ⟨g', cap', rfl⟩ := own_slice own' (by omega); have HA : Hid (RS W0 (w'.setCell ⟨B, 2, none⟩ (.slice (some ⟨g', 0, none⟩) (ns.length + 1) cap')) B A c toks p (ns ++ [(5, ⟨#[]⟩, 2)]) ss (.slice (some ⟨g', 0, none⟩) (ns.length + 1) cap') u) := H2.out.addNodes (xs := [(5, ⟨#[]⟩, 2)]) own' gr' bl'; have hb' := H2.out.box.grown gr' H2.out.vB; have k1 := (hb'.2 2 _ rfl).1; have k2 := (hb'.2 2 _ rfl).2; clear own' gr' bl' hb')
    go_end0
    exact ⟨rfl, _, HA.out⟩
end Go.Proofs.YtmbdbmjnibfmgaaDoor.Ex
