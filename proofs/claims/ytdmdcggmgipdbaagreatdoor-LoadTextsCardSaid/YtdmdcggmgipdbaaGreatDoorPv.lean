/-
  What the proofs lean on, part 22 of 25.
-/
import Derived.Test.YtdmdcggmgipdbaaGreatDoorPd
import Derived.Test.YtdmdcggmgipdbaaGreatDoorPu
import Derived.RegionTactic
namespace Go.Proofs.YtdmdcggmgipdbaaGreatDoor.Sg
open Go.RowKit Kit

set_option maxHeartbeats 400000 in
theorem findP_any (A : Option Addr) (n c : Nat) (l : List Sig) (t : ByteArray) (w : World) (hn : n = l.length) (hr : Row w w.heap.size A l) (hl : l.length ≤ maxLen) :
    Calls Tryz.prog 98 #[.slice A n c, .string t] w fun e w' => e = .returned (.int .i64 (findI t l 0)) ∧ Q w w' := by
  subst hn
  unfold maxLen at hl
  go_enter Tryz.func98, Tryz.ntmps98
  go_wp2_with fail
  go_loopw [4, 5, 6, 9] (fun _ _ _ i wr => ∃ k : Nat, k ≤ l.length ∧ i = .int .i64 k ∧ Hid (findI t l 0 = findI t (l.drop k) k) ∧ Q w wr) (fun _ _ _ i _ => l.length - (intOf i).toNat)
  case atStart => exact ⟨0, Nat.zero_le _, rfl, Lib.hid (by simp), Q.refl _⟩
  case round =>
    obtain ⟨k, hk, rfl, HF, qr⟩ := hrel
    by_cases hlt : k < l.length
    · obtain ⟨ad, rfl, hb, c0, c1⟩ := (hr.q (Nat.le_refl _) qr).at_ hlt
      have HS := Lib.hid (findI_at t l k hlt)
      clear hr
      cases he : eqS l[k].1 t
      · have HS' : Hid (findI t (l.drop k) k = findI t (l.drop (k + 1)) (k + 1)) := by have := HS.out; rw [he] at this; exact this
        have he' : (l[k].1.toList == t.toList) = false := he
        clear he
        go_wp2_with fail
        go_roundw
        case rel => exact ⟨k + 1, by omega, by go_num, Lib.hid (HF.out.trans HS'.out), qr.alloc _⟩
        case measure => simp [intOf]; omega
      · have HS' : Hid (findI t (l.drop k) k = k) := by have := HS.out; rw [he] at this; exact this
        have he' : (l[k].1.toList == t.toList) = true := he
        clear he
        go_wp2_with fail
        go_ret
        exact ⟨by rw [HF.out, HS'.out]; rfl, qr.alloc _⟩
    · have HS := Lib.hid (findI_end t l k (by omega))
      go_wp2_with fail
      go_ret
      exact ⟨by rw [HF.out, HS.out]; rfl, qr⟩

end Go.Proofs.YtdmdcggmgipdbaaGreatDoor.Sg

namespace Go.Proofs.YtdmdcggmgipdbaaGreatDoor.Ld
open Go.RowKit Kit Rw
open Go.Proofs.YtdmdcggmgipdbaaGreatDoor.Sg (Sig Row findI)
open Go.Proofs.YtdmdcggmgipdbaaGreatDoor.Hs (Keys Ints layI)
open Go.Proofs.YtdmdcggmgipdbaaGreatDoor.Tm (Tm Store Box4)
open Go.Proofs.YtdmdcggmgipdbaaGreatDoor.Ex (atS cellsS cellsI own_slice mayN np)
theorem box4_block {W W' : World} {B : Nat} {a b c d : Value} (h : Box4 W B a b c d) (hz : W.heap.size ≤ W'.heap.size) (hb : W'.heap[B]? = W.heap[B]?) : Box4 W' B a b c d :=
  ⟨(World.cell?_of_block (a := ⟨B, 0, none⟩) hb).trans h.c0, (World.cell?_of_block (a := ⟨B, 1, none⟩) hb).trans h.c1, (World.cell?_of_block (a := ⟨B, 2, none⟩) hb).trans h.c2, (World.cell?_of_block (a := ⟨B, 3, none⟩) hb).trans h.c3,
   (World.frozen?_of_block (a := ⟨B, 0, none⟩) hb).trans h.f0, (World.frozen?_of_block (a := ⟨B, 1, none⟩) hb).trans h.f1, (World.frozen?_of_block (a := ⟨B, 2, none⟩) hb).trans h.f2, (World.frozen?_of_block (a := ⟨B, 3, none⟩) hb).trans h.f3, Nat.lt_of_lt_of_le h.lt hz⟩
theorem Box4.set1 {W : World} {B : Nat} {a b c d : Value} (h : Box4 W B a b c d) (v : Value) : Box4 (W.setCell ⟨B, 1, none⟩ v) B a v c d :=
  ⟨Tm.setCell_ne (by omega) h.c0, Tm.setCell_eq h.c1, Tm.setCell_ne (by omega) h.c2, Tm.setCell_ne (by omega) h.c3, by rw [World.frozen?_setCell]; exact h.f0, by rw [World.frozen?_setCell]; exact h.f1, by rw [World.frozen?_setCell]; exact h.f2, by rw [World.frozen?_setCell]; exact h.f3, by have := h.lt; simpa [World.setCell] using this⟩
theorem Box4.set2 {W : World} {B : Nat} {a b c d : Value} (h : Box4 W B a b c d) (v : Value) : Box4 (W.setCell ⟨B, 2, none⟩ v) B a b v d :=
  ⟨Tm.setCell_ne (by omega) h.c0, Tm.setCell_ne (by omega) h.c1, Tm.setCell_eq h.c2, Tm.setCell_ne (by omega) h.c3, by rw [World.frozen?_setCell]; exact h.f0, by rw [World.frozen?_setCell]; exact h.f1, by rw [World.frozen?_setCell]; exact h.f2, by rw [World.frozen?_setCell]; exact h.f3, by have := h.lt; simpa [World.setCell] using this⟩
theorem five_grown (w : World) (g : Nat) (a x y z u : Value) : w.grownBy (((((w.setCell ⟨g, 1, none⟩ a).setCell ⟨g, 0, none⟩ x).setCell ⟨g, 1, none⟩ y).setCell ⟨g, 2, none⟩ z).setCell ⟨g, 3, none⟩ u) (some g) :=
  grown_trans (grown_trans (grown_trans (grown_trans (setCell_grown _ _ _ _) (setCell_grown _ _ _ _)) (setCell_grown _ _ _ _)) (setCell_grown _ _ _ _)) (setCell_grown _ _ _ _)
theorem Q1set {W W2 : World} (q : Q W W2) {g : Nat} (hg : W.heap.size ≤ g) (x : Value) : Q W (W2.setCell ⟨g, 1, none⟩ x) := q.setCell (p := ⟨g, 1, none⟩) hg _
theorem Q2set {W W2 : World} (q : Q W W2) {g : Nat} (hg : W.heap.size ≤ g) (x y : Value) : Q W ((W2.setCell ⟨g, 1, none⟩ x).setCell ⟨g, 2, none⟩ y) := (q.setCell (p := ⟨g, 1, none⟩) hg _).setCell (p := ⟨g, 2, none⟩) hg _
theorem four_back {W W2 : World} {g : Nat} (q : Q W W2) (hg : W.heap.size ≤ g) (x y z u : Value) : Q W ((((W2.setCell ⟨g, 0, none⟩ x).setCell ⟨g, 1, none⟩ y).setCell ⟨g, 2, none⟩ z).setCell ⟨g, 3, none⟩ u) :=
  (((q.setCell (p := ⟨g, 0, none⟩) hg _).setCell (p := ⟨g, 1, none⟩) hg _).setCell (p := ⟨g, 2, none⟩) hg _).setCell (p := ⟨g, 3, none⟩) hg _
theorem symN_var9 (L : List Sig) (own : List ByteArray) (nm : ByteArray) (N : Int) : symN L own (2, nm, N) = numV own nm := by unfold symN numV; rw [if_pos rfl]
theorem ownN_var9 (own : List ByteArray) (nm : ByteArray) (N : Int) : ownN own (2, nm, N) = numO own nm := by
  unfold ownN numO
  by_cases h : atS nm own 0 < 0
  · rw [if_pos ⟨rfl, h⟩, if_pos h]
  · rw [if_neg (fun e => h e.2), if_neg h]
theorem ownN_else9 (own : List ByteArray) {n : Tg} (h : n.1 ≠ 2) : ownN own n = own := by unfold ownN; rw [if_neg (fun e => h e.1)]
theorem symN_con9 (L : List Sig) (own : List ByteArray) {n : Tg} (h : n.1 = 3 ∨ n.1 = 6) : symN L own n = findI n.2.1 L 0 := by unfold symN; rw [if_neg (by omega), if_pos h]
theorem symN_zero9 (L : List Sig) (own : List ByteArray) {n : Tg} (h : n.1 ≠ 2) (h' : ¬ (n.1 = 3 ∨ n.1 = 6)) : symN L own n = 0 := by unfold symN; rw [if_neg h, if_neg h']
theorem part_zero9 {n : Tg} (h : n.1 ≠ 6) : partP n = 0 := by unfold partP; rw [if_neg h]
theorem np_int9 {n : Tg} (hm : mayN n = true) : ((np n : Nat) : Int) = if n.1 = 6 then 1 else n.2.2 := ((Ex.parts_nat hm).1).symm
section
variable (w0 : World) (B b : Nat) (R : Option Addr) (cl : Nat) (L : List Sig) (A S : Option Addr) (c d : Nat) (ks : List (List Int)) (v : Value) (own : List ByteArray) (limit : Int) (u : Value) (wt : List Int) (lo hi : Nat)
def BarePost (n : Tg) (e : Ending) (w' : World) : Prop :=
  e = .returned (.tuple #[.agg #[.int .i64 n.1, .int .i64 (symN L own n), .int .i64 (partP n), .slice none 0 0], .int .i64 ((np n : Nat) : Int)]) ∧ ∃ v', LdS w0 w' B b R cl L A S c d ks v' (ownN own n) limit u wt lo hi

set_option maxRecDepth 100000 in
set_option maxHeartbeats 2000000 in
theorem bare_0 (w : World) (nm : ByteArray) (N : Int) (h : LdS w0 w B b R cl L A S c d ks v own limit u wt lo hi) (hm : mayN (0, nm, N) = true) :
    Calls Tryz.prog 78 #[.pointer (some ⟨B, 0, none⟩), .agg #[.int .i64 0, .string nm, .int .i64 N]] w (BarePost w0 B b R cl L A S c d ks own limit u wt lo hi (0, nm, N)) := by
  have hnp := np_int9 hm
  have hN : N = 0 := by
    have := hm
    unfold mayN at this
    simp at this
    exact this.2
  have HL := Lib.hid (h.more (((Q.refl w).alloc (Obj.cells #[.int .i64 0, .string nm, .int .i64 N] 67)).alloc (Obj.cells #[.int .i64 0, .int .i64 0, .int .i64 0, .slice none 0 0] 77)))
  simp only at hnp
  rw [if_neg (by omega)] at hnp
  unfold BarePost
  rw [ownN_else9 own (n := (0, nm, N)) (by simp), symN_zero9 L own (n := (0, nm, N)) (by simp) (by simp), part_zero9 (n := (0, nm, N)) (by simp), hnp]
  subst hN
  clear h hnp hm
  go_enter Tryz.func78, Tryz.ntmps78
  go_wp2_with fail
  exact bodyPost_ret (v := .tuple #[.agg #[.int .i64 0, .int .i64 0, .int .i64 0, .slice none 0 0], .int .i64 0]) (by simp [results, Tryz.f78, go_sem]) rfl ⟨rfl, v, HL.out⟩

set_option maxRecDepth 100000 in
set_option maxHeartbeats 2000000 in
theorem bare_1 (w : World) (nm : ByteArray) (N : Int) (h : LdS w0 w B b R cl L A S c d ks v own limit u wt lo hi) (hm : mayN (1, nm, N) = true) :
    Calls Tryz.prog 78 #[.pointer (some ⟨B, 0, none⟩), .agg #[.int .i64 1, .string nm, .int .i64 N]] w (BarePost w0 B b R cl L A S c d ks own limit u wt lo hi (1, nm, N)) := by
  have hnp := np_int9 hm
  have hN : N = 0 := by
    have := hm
    unfold mayN at this
    simp at this
    exact this.2
  have HL := Lib.hid (h.more (((Q.refl w).alloc (Obj.cells #[.int .i64 1, .string nm, .int .i64 N] 67)).alloc (Obj.cells #[.int .i64 1, .int .i64 0, .int .i64 0, .slice none 0 0] 77)))
  simp only at hnp
  rw [if_neg (by omega)] at hnp
  unfold BarePost
  rw [ownN_else9 own (n := (1, nm, N)) (by simp), symN_zero9 L own (n := (1, nm, N)) (by simp) (by simp), part_zero9 (n := (1, nm, N)) (by simp), hnp]
  subst hN
  clear h hnp hm
  go_enter Tryz.func78, Tryz.ntmps78
  go_wp2_with fail
  exact bodyPost_ret (v := .tuple #[.agg #[.int .i64 1, .int .i64 0, .int .i64 0, .slice none 0 0], .int .i64 0]) (by simp [results, Tryz.f78, go_sem]) rfl ⟨rfl, v, HL.out⟩

set_option maxRecDepth 100000 in
set_option maxHeartbeats 2000000 in
theorem bare_4 (w : World) (nm : ByteArray) (N : Int) (h : LdS w0 w B b R cl L A S c d ks v own limit u wt lo hi) (hm : mayN (4, nm, N) = true) :
    Calls Tryz.prog 78 #[.pointer (some ⟨B, 0, none⟩), .agg #[.int .i64 4, .string nm, .int .i64 N]] w (BarePost w0 B b R cl L A S c d ks own limit u wt lo hi (4, nm, N)) := by
  have hnp := np_int9 hm
  have hN : N = 2 := by
    have := hm
    unfold mayN at this
    simp at this
    exact this.2
  have HL := Lib.hid (h.more (((Q.refl w).alloc (Obj.cells #[.int .i64 4, .string nm, .int .i64 N] 67)).alloc (Obj.cells #[.int .i64 4, .int .i64 0, .int .i64 0, .slice none 0 0] 77)))
  simp only at hnp
  rw [if_neg (by omega)] at hnp
  unfold BarePost
  rw [ownN_else9 own (n := (4, nm, N)) (by simp), symN_zero9 L own (n := (4, nm, N)) (by simp) (by simp), part_zero9 (n := (4, nm, N)) (by simp), hnp]
  subst hN
  clear h hnp hm
  go_enter Tryz.func78, Tryz.ntmps78
  go_wp2_with fail
  exact bodyPost_ret (v := .tuple #[.agg #[.int .i64 4, .int .i64 0, .int .i64 0, .slice none 0 0], .int .i64 2]) (by simp [results, Tryz.f78, go_sem]) rfl ⟨rfl, v, HL.out⟩

set_option maxRecDepth 100000 in
set_option maxHeartbeats 2000000 in
theorem bare_5 (w : World) (nm : ByteArray) (N : Int) (h : LdS w0 w B b R cl L A S c d ks v own limit u wt lo hi) (hm : mayN (5, nm, N) = true) :
    Calls Tryz.prog 78 #[.pointer (some ⟨B, 0, none⟩), .agg #[.int .i64 5, .string nm, .int .i64 N]] w (BarePost w0 B b R cl L A S c d ks own limit u wt lo hi (5, nm, N)) := by
  have hnp := np_int9 hm
  have hN : N = 2 := by
    have := hm
    unfold mayN at this
    simp at this
    exact this.2
  have HL := Lib.hid (h.more (((Q.refl w).alloc (Obj.cells #[.int .i64 5, .string nm, .int .i64 N] 67)).alloc (Obj.cells #[.int .i64 5, .int .i64 0, .int .i64 0, .slice none 0 0] 77)))
  simp only at hnp
  rw [if_neg (by omega)] at hnp
  unfold BarePost
  rw [ownN_else9 own (n := (5, nm, N)) (by simp), symN_zero9 L own (n := (5, nm, N)) (by simp) (by simp), part_zero9 (n := (5, nm, N)) (by simp), hnp]
  subst hN
  clear h hnp hm
  go_enter Tryz.func78, Tryz.ntmps78
  go_wp2_with fail
  exact bodyPost_ret (v := .tuple #[.agg #[.int .i64 5, .int .i64 0, .int .i64 0, .slice none 0 0], .int .i64 2]) (by simp [results, Tryz.f78, go_sem]) rfl ⟨rfl, v, HL.out⟩

set_option maxRecDepth 100000 in
set_option maxHeartbeats 2000000 in
theorem bare_2 (w : World) (nm : ByteArray) (N : Int) (h : LdS w0 w B b R cl L A S c d ks v own limit u wt lo hi) (hm : mayN (2, nm, N) = true) (hs : nm.size ≤ 1000) (ho : own.length ≤ 100000) :
    Calls Tryz.prog 78 #[.pointer (some ⟨B, 0, none⟩), .agg #[.int .i64 2, .string nm, .int .i64 N]] w (BarePost w0 B b R cl L A S c d ks own limit u wt lo hi (2, nm, N)) := by
  have hnp := np_int9 hm
  have hN : N = 0 := by
    have := hm
    unfold mayN at this
    simp at this
    exact this.2
  have q1 := ((Q.refl w).alloc (Obj.cells #[.int .i64 2, .string nm, .int .i64 N] 67)).alloc (Obj.cells #[.int .i64 2, .int .i64 0, .int .i64 0, .slice none 0 0] 77)
  have hL := h.more q1
  have HC := Lib.hid (number_any w0 B b R cl L A S c d ks v own limit u wt lo hi _ nm hL hs ho)
  have HT := Lib.hid (Box4.new (w.alloc (Obj.cells #[.int .i64 2, .string nm, .int .i64 N] 67)) (.int .i64 2) (.int .i64 0) (.int .i64 0) (.slice none 0 0) 77)
  have e1 : (w.alloc (Obj.cells #[.int .i64 2, .string nm, .int .i64 N] 67)).heap.size = w.heap.size + 1 := by simp
  rw [e1] at HT
  have HOut : Hid (w.heap.size + 1 ≠ B ∧ w.heap.size + 1 ≠ b ∧ v.ownBlock ≠ some (w.heap.size + 1) ∧ u.ownBlock ≠ some (w.heap.size + 1) ∧ hi ≤ w.heap.size + 1 ∧ w0.heap.size ≤ w.heap.size + 1) := by
    have a1 := h.box.1
    have a2 := h.num.lt
    have a3 := h.keys.1
    have a4 := h.q.size
    exact Lib.hid ⟨by omega, by omega, fun e => by have := (h.nms.lt _ e).2; omega, fun e => by have := (h.wts.lt _ e).2; omega, by omega, by omega⟩
  simp only at hnp
  rw [if_neg (by omega)] at hnp
  unfold BarePost
  rw [ownN_var9, symN_var9, part_zero9 (n := (2, nm, N)) (by simp), hnp]
  subst hN
  clear h hnp hm hL q1 e1
  have b0 := HT.out.c0
  go_enter Tryz.func78, Tryz.ntmps78
  go_wp2_with fail
  generalize ((w.alloc (Obj.cells #[.int .i64 2, .string nm, .int .i64 0] 67)).alloc (Obj.cells #[.int .i64 2, .int .i64 0, .int .i64 0, .slice none 0 0] 77)) = W1 at *
  refine HC.out.mono ?_
  rintro e w2 ⟨rfl, ⟨v', h2, hv2⟩, hf⟩
  have hz : W1.heap.size ≤ w2.heap.size := hf.2
  have hT2 := box4_block HT.out hz (hf.1 _ HT.out.lt HOut.out.1 HOut.out.2.1 HOut.out.2.2.1)
  have H2 := Lib.hid h2
  have HV2 := Lib.hid hv2
  have t0 := hT2.c0
  have t1 := hT2.c1
  have t2 := hT2.c2
  have t3 := hT2.c3
  have g0 := hT2.f0
  have g1 := hT2.f1
  have g2 := hT2.f2
  have g3 := hT2.f3
  generalize hnv : numV own nm = x at *
  have hT3 := (Box4.set1 hT2 (.int .i64 x)).all (.int .i64 2) (.int .i64 x) (.int .i64 0) (.slice none 0 0)
  have HNv := Lib.hid hnv
  have y0 := hT3.c0
  have y1 := hT3.c1
  have y2 := hT3.c2
  have y3 := hT3.c3
  clear h2 hv2 hf hnv hT2 hT3 b0 HC
  go_wp2_with fail
  have hL3 := H2.out.aside (five_grown w2 (w.heap.size + 1) (.int .i64 x) (.int .i64 2) (.int .i64 x) (.int .i64 0) (.slice none 0 0)) HOut.out.2.2.2.2.2 HOut.out.1 HOut.out.2.1 (fun e => by
    rcases HV2.out _ e with e | e
    · exact HOut.out.2.2.1 e
    · have := HT.out.lt; omega) HOut.out.2.2.2.1 (.inr HOut.out.2.2.2.2.1)
  generalize ((((w2.setCell ⟨w.heap.size + 1, 1, none⟩ (.int .i64 x)).setCell ⟨w.heap.size + 1, 0, none⟩ (.int .i64 2)).setCell ⟨w.heap.size + 1, 1, none⟩ (.int .i64 x)).setCell ⟨w.heap.size + 1, 2, none⟩ (.int .i64 0)).setCell ⟨w.heap.size + 1, 3, none⟩ (.slice none 0 0) = WF at *
  exact bodyPost_ret (v := .tuple #[.agg #[.int .i64 2, .int .i64 x, .int .i64 0, .slice none 0 0], .int .i64 0]) (by simp [results, Tryz.f78, go_sem, y0, y1, y2, y3]) rfl ⟨by rw [HNv.out], v', hL3⟩

set_option maxRecDepth 100000 in
set_option maxHeartbeats 4000000 in
theorem bare_3 (w : World) (nm : ByteArray) (N : Int) (h : LdS w0 w B b R cl L A S c d ks v own limit u wt lo hi) (hm : mayN (3, nm, N) = true) (hl : L.length ≤ 1000) :
    Calls Tryz.prog 78 #[.pointer (some ⟨B, 0, none⟩), .agg #[.int .i64 3, .string nm, .int .i64 N]] w (BarePost w0 B b R cl L A S c d ks own limit u wt lo hi (3, nm, N)) := by
  have hnp := np_int9 hm
  have hN : 0 ≤ N ∧ N ≤ 8 := by
    have := hm
    unfold mayN at this
    simp at this
    omega
  have q1 := ((Q.refl w).alloc (Obj.cells #[.int .i64 3, .string nm, .int .i64 N] 67)).alloc (Obj.cells #[.int .i64 3, .int .i64 0, .int .i64 0, .slice none 0 0] 77)
  have HCF : Hid (∀ W, Q ((w.alloc (Obj.cells #[.int .i64 3, .string nm, .int .i64 N] 67)).alloc (Obj.cells #[.int .i64 3, .int .i64 0, .int .i64 0, .slice none 0 0] 77)) W → Calls Tryz.prog 98 #[.slice R L.length cl, .string nm] W fun e w' => e = .returned (.int .i64 (findI nm L 0)) ∧ Q W w') := fun W q => Sg.findP_any R L.length cl L nm W rfl (h.more (q1.trans q)).rowW (by unfold maxLen; omega)
  have HT := Lib.hid (Box4.new (w.alloc (Obj.cells #[.int .i64 3, .string nm, .int .i64 N] 67)) (.int .i64 3) (.int .i64 0) (.int .i64 0) (.slice none 0 0) 77)
  have e1 : (w.alloc (Obj.cells #[.int .i64 3, .string nm, .int .i64 N] 67)).heap.size = w.heap.size + 1 := by simp
  rw [e1] at HT
  have HG : Hid (w.heap.size ≤ w.heap.size + 1) := Nat.le_succ _
  have HNb := Lib.hid ((Ex.own_new w [.int .i64 3, .string nm, .int .i64 N] 67).q ((Q.refl _).alloc (Obj.cells #[.int .i64 3, .int .i64 0, .int .i64 0, .slice none 0 0] 77)))
  have HL := Lib.hid (h.more q1)
  have HQ1 := Lib.hid q1
  have HBne : Hid (w.heap.size + 1 ≠ B) := by have := h.box.1; unfold Hid; omega
  have HMore : Hid (∀ W, Q w W → LdS w0 W B b R cl L A S c d ks v own limit u wt lo hi) := fun W q => h.more q
  simp only at hnp
  rw [if_neg (by omega)] at hnp
  have hpt : partP (3, nm, N) = 0 := by unfold partP; rw [if_neg (by simp)]
  unfold BarePost
  rw [ownN_else9 own (n := (3, nm, N)) (by simp), symN_con9 L own (n := (3, nm, N)) (by simp), hpt, hnp]
  have b0 := HT.out.c0
  clear h hnp hm q1 e1 hpt
  generalize hx : findI nm L 0 = x at *
  clear hx
  change Hid (OwnC ((w.alloc (Obj.cells #[.int .i64 3, .string nm, .int .i64 N] 67)).alloc (Obj.cells #[.int .i64 3, .int .i64 0, .int .i64 0, .slice none 0 0] 77)) w.heap.size [.int .i64 3, .string nm, .int .i64 N]) at HNb
  have c0 := (HNb.out.2 0 _ rfl).1
  go_enter Tryz.func78, Tryz.ntmps78
  go_wp2_with fail
  generalize ((w.alloc (Obj.cells #[.int .i64 3, .string nm, .int .i64 N] 67)).alloc (Obj.cells #[.int .i64 3, .int .i64 0, .int .i64 0, .slice none 0 0] 77)) = W1 at *
  have HKeep : Hid (∀ W, Q W1 W → W.cell? ⟨B, 0, none⟩ = some (.slice R L.length cl) ∧ W.cell? ⟨w.heap.size, 1, none⟩ = some (.string nm) ∧ W.cell? ⟨w.heap.size, 2, none⟩ = some (.int .i64 N)) := fun W q => by
    have hb := HNb.out.q q
    exact ⟨(HL.out.more q).cells.1, (hb.2 1 _ rfl).1, (hb.2 2 _ rfl).1⟩
  have HS1 : Hid (∀ W y, Q W1 W → (W.setCell ⟨w.heap.size + 1, 1, none⟩ y).cell? ⟨B, 0, none⟩ = some (.slice R L.length cl) ∧ (W.setCell ⟨w.heap.size + 1, 1, none⟩ y).cell? ⟨w.heap.size, 1, none⟩ = some (.string nm) ∧ (W.setCell ⟨w.heap.size + 1, 1, none⟩ y).cell? ⟨w.heap.size, 2, none⟩ = some (.int .i64 N)) := fun W y q => by
    obtain ⟨a1, a2, a3⟩ := HKeep.out W q
    exact ⟨(World.cell?_setCell_far _ _ _ _ HBne.out).trans a1, (World.cell?_setCell_far _ _ _ _ (by simp)).trans a2, (World.cell?_setCell_far _ _ _ _ (by simp)).trans a3⟩
  clear b0 c0
  refine wp_region_held_drew (S := fun w' => w'.cell? ⟨B, 0, none⟩ = some (.slice R L.length cl) ∧ w'.cell? ⟨w.heap.size, 1, none⟩ = some (.string nm) ∧ w'.cell? ⟨w.heap.size, 2, none⟩ = some (.int .i64 N)) (by kernel_rfl) ?_ (fun hHeld => ?_)
  · exact HKeep.out _ (Q.refl W1).drew
  refine take_w (i := 0) (d := some 20) (v := ?_) rfl (by kernel_rfl) (by kernel_rfl) (by kernel_rfl) (fun _ _ _ h => h) rfl (by rfl) ?_ (by assumption) ?_
  rotate_left
  · (intro w hSw; (try dsimp only at hSw); go_simp; (try with_reducible rfl))
  try simp only [Act.put, List.setIfInBounds_toArray, List.set_cons_zero, List.set_cons_succ]
  refine take_w (i := 1) (d := some 21) (v := ?_) rfl (by kernel_rfl) (by kernel_rfl) (by kernel_rfl) (fun _ _ _ h => h) rfl (by rfl) ?_ (by assumption) ?_
  rotate_left
  · (intro w hSw; (try dsimp only at hSw); go_simp; (try with_reducible rfl))
  try simp only [Act.put, List.setIfInBounds_toArray, List.set_cons_zero, List.set_cons_succ]
  refine take_w (i := 2) (d := some 22) (v := ?_) rfl (by kernel_rfl) (by kernel_rfl) (by kernel_rfl) (fun _ _ _ h => h) rfl (by rfl) ?_ (by assumption) ?_
  rotate_left
  · (intro w hSw; (try dsimp only at hSw); go_simp; (try with_reducible rfl))
  try simp only [Act.put, List.setIfInBounds_toArray, List.set_cons_zero, List.set_cons_succ]
  refine take_w (i := 3) (d := some 23) (v := ?_) rfl (by kernel_rfl) (by kernel_rfl) (by kernel_rfl) (fun _ _ _ h => h) rfl (by rfl) ?_ (by assumption) ?_
  rotate_left
  · (intro w hSw; (try dsimp only at hSw); go_simp; (try with_reducible rfl))
  try simp only [Act.put, List.setIfInBounds_toArray, List.set_cons_zero, List.set_cons_succ]
  refine take_w (i := 4) (d := some 24) (v := ?_) rfl (by kernel_rfl) (by kernel_rfl) (by kernel_rfl) (fun _ _ _ h => h) rfl (by rfl) ?_ (by assumption) ?_
  rotate_left
  · (intro w hSw; (try dsimp only at hSw); go_simp; (try with_reducible rfl))
  try simp only [Act.put, List.setIfInBounds_toArray, List.set_cons_zero, List.set_cons_succ]
  refine take_w (i := 5) (d := some 25) (v := ?_) rfl (by kernel_rfl) (by kernel_rfl) (by kernel_rfl) (fun _ _ _ h => h) rfl (by rfl) ?_ (by assumption) ?_
  rotate_left
  · (intro w hSw; (try dsimp only at hSw); go_simp; (try with_reducible rfl))
  try simp only [Act.put, List.setIfInBounds_toArray, List.set_cons_zero, List.set_cons_succ]
  refine take_w (i := 7) (d := some 27) (v := ?_) rfl (by kernel_rfl) (by kernel_rfl) (by kernel_rfl) (fun _ _ _ h => h) rfl (by rfl) ?_ (by assumption) ?_
  rotate_left
  · (intro w hSw; (try dsimp only at hSw); go_simp; (try with_reducible rfl))
  try simp only [Act.put, List.setIfInBounds_toArray, List.set_cons_zero, List.set_cons_succ]
  refine take_w (i := 8) (d := some 28) (v := ?_) rfl (by kernel_rfl) (by kernel_rfl) (by kernel_rfl) (fun _ _ _ h => h) rfl (by rfl) ?_ (by assumption) ?_
  rotate_left
  · (intro w hSw; (try dsimp only at hSw); go_simp; (try with_reducible rfl))
  try simp only [Act.put, List.setIfInBounds_toArray, List.set_cons_zero, List.set_cons_succ]
  refine call_w (i := 6) rfl (by kernel_rfl) (by rfl) (fun K hK => ?_)
  go_simp
  go_at_call 98
  refine (HCF.out _ (Q.refl W1).drew).mono ?_
  rintro e w2 ⟨rfl, q2⟩
  replace q2 := Lib.hid ((Q.refl W1).drew.trans q2)
  refine hK.out _ _ ?_ (fun hHeld => ?_)
  · exact HKeep.out _ q2.out
  clear hK K
  try simp only [Act.put, List.setIfInBounds_toArray, List.set_cons_zero, List.set_cons_succ]
  refine take_w (i := 9) (d := some 29) (v := ?_) rfl (by kernel_rfl) (by kernel_rfl) (by kernel_rfl) (fun _ _ _ h => h) rfl (by rfl) ?_ (by assumption) ?_
  rotate_left
  · (intro w hSw; (try dsimp only at hSw); go_simp; (try with_reducible rfl))
  try simp only [Act.put, List.setIfInBounds_toArray, List.set_cons_zero, List.set_cons_succ]
  refine call_w (i := 10) rfl (by kernel_rfl) (by rfl) (fun K hK => ?_)
  have hT2 := HT.out.q q2.out
  have s1 := hT2.c1
  have f1 := hT2.f1
  go_simp
  refine hK.out _ _ ?_ (fun hHeld => ?_)
  · exact HS1.out _ _ q2.out
  clear hK K
  try simp only [Act.put, List.setIfInBounds_toArray, List.set_cons_zero, List.set_cons_succ]
  refine call_w (i := 11) rfl (by kernel_rfl) (by rfl) (fun K hK => ?_)
  go_simp
  refine hK.out _ _ ?_ (fun hHeld => ?_)
  · exact HS1.out _ _ q2.out
  clear hK K
  try simp only [Act.put, List.setIfInBounds_toArray, List.set_cons_zero, List.set_cons_succ]
  refine wpAnyH_done (by kernel_rfl) ?_ _
  have hT2 := HT.out.q q2.out
  have hT3 := (Box4.set1 hT2 (.int .i64 x))
  have t0 := hT3.c0
  have t1 := hT3.c1
  have t2 := hT3.c2
  have t3 := hT3.c3
  have g0 := hT3.f0
  have g1 := hT3.f1
  have g2 := hT3.f2
  have g3 := hT3.f3
  have hT4 := hT3.all (.int .i64 3) (.int .i64 x) (.int .i64 (0)) (.slice none 0 0)
  have y0 := hT4.c0
  have y1 := hT4.c1
  have y2 := hT4.c2
  have y3 := hT4.c3
  have hL3 := HMore.out _ (four_back (Q1set (HQ1.out.trans q2.out) HG.out (.int .i64 x)) HG.out (.int .i64 3) (.int .i64 x) (.int .i64 (0)) (.slice none 0 0))
  clear hT2 hT3 hT4
  go_wp2_with fail
  generalize ((((w2.setCell ⟨w.heap.size + 1, 1, none⟩ (.int .i64 x)).setCell ⟨w.heap.size + 1, 0, none⟩ (.int .i64 3)).setCell ⟨w.heap.size + 1, 1, none⟩ (.int .i64 x)).setCell ⟨w.heap.size + 1, 2, none⟩ (.int .i64 (0))).setCell ⟨w.heap.size + 1, 3, none⟩ (.slice none 0 0) = WF at *
  exact bodyPost_ret (v := .tuple #[.agg #[.int .i64 3, .int .i64 x, .int .i64 (0), .slice none 0 0], .int .i64 N]) (by simp [results, Tryz.f78, go_sem, y0, y1, y2, y3]) rfl ⟨rfl, v, hL3⟩

set_option maxRecDepth 100000 in
set_option maxHeartbeats 4000000 in
theorem bare_6 (w : World) (nm : ByteArray) (N : Int) (h : LdS w0 w B b R cl L A S c d ks v own limit u wt lo hi) (hm : mayN (6, nm, N) = true) (hl : L.length ≤ 1000) :
    Calls Tryz.prog 78 #[.pointer (some ⟨B, 0, none⟩), .agg #[.int .i64 6, .string nm, .int .i64 N]] w (BarePost w0 B b R cl L A S c d ks own limit u wt lo hi (6, nm, N)) := by
  have hnp := np_int9 hm
  have hN : 1 ≤ N ∧ N ≤ 8 := by
    have := hm
    unfold mayN at this
    simp at this
    omega
  have q1 := ((Q.refl w).alloc (Obj.cells #[.int .i64 6, .string nm, .int .i64 N] 67)).alloc (Obj.cells #[.int .i64 6, .int .i64 0, .int .i64 0, .slice none 0 0] 77)
  have HCF : Hid (∀ W, Q ((w.alloc (Obj.cells #[.int .i64 6, .string nm, .int .i64 N] 67)).alloc (Obj.cells #[.int .i64 6, .int .i64 0, .int .i64 0, .slice none 0 0] 77)) W → Calls Tryz.prog 98 #[.slice R L.length cl, .string nm] W fun e w' => e = .returned (.int .i64 (findI nm L 0)) ∧ Q W w') := fun W q => Sg.findP_any R L.length cl L nm W rfl (h.more (q1.trans q)).rowW (by unfold maxLen; omega)
  have HT := Lib.hid (Box4.new (w.alloc (Obj.cells #[.int .i64 6, .string nm, .int .i64 N] 67)) (.int .i64 6) (.int .i64 0) (.int .i64 0) (.slice none 0 0) 77)
  have e1 : (w.alloc (Obj.cells #[.int .i64 6, .string nm, .int .i64 N] 67)).heap.size = w.heap.size + 1 := by simp
  rw [e1] at HT
  have HG : Hid (w.heap.size ≤ w.heap.size + 1) := Nat.le_succ _
  have HNb := Lib.hid ((Ex.own_new w [.int .i64 6, .string nm, .int .i64 N] 67).q ((Q.refl _).alloc (Obj.cells #[.int .i64 6, .int .i64 0, .int .i64 0, .slice none 0 0] 77)))
  have HL := Lib.hid (h.more q1)
  have HQ1 := Lib.hid q1
  have HBne : Hid (w.heap.size + 1 ≠ B) := by have := h.box.1; unfold Hid; omega
  have HMore : Hid (∀ W, Q w W → LdS w0 W B b R cl L A S c d ks v own limit u wt lo hi) := fun W q => h.more q
  simp only at hnp
  rw [if_pos trivial] at hnp
  have hpt : partP (6, nm, N) = N - 1 := by unfold partP; rw [if_pos rfl]
  unfold BarePost
  rw [ownN_else9 own (n := (6, nm, N)) (by simp), symN_con9 L own (n := (6, nm, N)) (by simp), hpt, hnp]
  have hwr : IntKind.i64.wrap (N - 1) = N - 1 := IntWalk.i64_in _ (by omega)
  have b0 := HT.out.c0
  clear h hnp hm q1 e1 hpt
  generalize hx : findI nm L 0 = x at *
  clear hx
  change Hid (OwnC ((w.alloc (Obj.cells #[.int .i64 6, .string nm, .int .i64 N] 67)).alloc (Obj.cells #[.int .i64 6, .int .i64 0, .int .i64 0, .slice none 0 0] 77)) w.heap.size [.int .i64 6, .string nm, .int .i64 N]) at HNb
  have c0 := (HNb.out.2 0 _ rfl).1
  go_enter Tryz.func78, Tryz.ntmps78
  go_wp2_with fail
  generalize ((w.alloc (Obj.cells #[.int .i64 6, .string nm, .int .i64 N] 67)).alloc (Obj.cells #[.int .i64 6, .int .i64 0, .int .i64 0, .slice none 0 0] 77)) = W1 at *
  have HKeep : Hid (∀ W, Q W1 W → W.cell? ⟨B, 0, none⟩ = some (.slice R L.length cl) ∧ W.cell? ⟨w.heap.size, 1, none⟩ = some (.string nm) ∧ W.cell? ⟨w.heap.size, 2, none⟩ = some (.int .i64 N)) := fun W q => by
    have hb := HNb.out.q q
    exact ⟨(HL.out.more q).cells.1, (hb.2 1 _ rfl).1, (hb.2 2 _ rfl).1⟩
  have HS1 : Hid (∀ W y, Q W1 W → (W.setCell ⟨w.heap.size + 1, 1, none⟩ y).cell? ⟨B, 0, none⟩ = some (.slice R L.length cl) ∧ (W.setCell ⟨w.heap.size + 1, 1, none⟩ y).cell? ⟨w.heap.size, 1, none⟩ = some (.string nm) ∧ (W.setCell ⟨w.heap.size + 1, 1, none⟩ y).cell? ⟨w.heap.size, 2, none⟩ = some (.int .i64 N)) := fun W y q => by
    obtain ⟨a1, a2, a3⟩ := HKeep.out W q
    exact ⟨(World.cell?_setCell_far _ _ _ _ HBne.out).trans a1, (World.cell?_setCell_far _ _ _ _ (by simp)).trans a2, (World.cell?_setCell_far _ _ _ _ (by simp)).trans a3⟩
  have HS2 : Hid (∀ W y z, Q W1 W → ((W.setCell ⟨w.heap.size + 1, 1, none⟩ y).setCell ⟨w.heap.size + 1, 2, none⟩ z).cell? ⟨B, 0, none⟩ = some (.slice R L.length cl) ∧ ((W.setCell ⟨w.heap.size + 1, 1, none⟩ y).setCell ⟨w.heap.size + 1, 2, none⟩ z).cell? ⟨w.heap.size, 1, none⟩ = some (.string nm) ∧ ((W.setCell ⟨w.heap.size + 1, 1, none⟩ y).setCell ⟨w.heap.size + 1, 2, none⟩ z).cell? ⟨w.heap.size, 2, none⟩ = some (.int .i64 N)) := fun W y z q => by
    obtain ⟨a1, a2, a3⟩ := HS1.out W y q
    exact ⟨(World.cell?_setCell_far _ _ _ _ HBne.out).trans a1, (World.cell?_setCell_far _ _ _ _ (by simp)).trans a2, (World.cell?_setCell_far _ _ _ _ (by simp)).trans a3⟩
  clear b0 c0
  refine wp_region_held_drew (S := fun w' => w'.cell? ⟨B, 0, none⟩ = some (.slice R L.length cl) ∧ w'.cell? ⟨w.heap.size, 1, none⟩ = some (.string nm) ∧ w'.cell? ⟨w.heap.size, 2, none⟩ = some (.int .i64 N)) (by kernel_rfl) ?_ (fun hHeld => ?_)
  · exact HKeep.out _ (Q.refl W1).drew
  refine take_w (i := 0) (d := some 35) (v := ?_) rfl (by kernel_rfl) (by kernel_rfl) (by kernel_rfl) (fun _ _ _ h => h) rfl (by rfl) ?_ (by assumption) ?_
  rotate_left
  · (intro w hSw; (try dsimp only at hSw); go_simp; (try with_reducible rfl))
  try simp only [Act.put, List.setIfInBounds_toArray, List.set_cons_zero, List.set_cons_succ]
  refine take_w (i := 1) (d := some 36) (v := ?_) rfl (by kernel_rfl) (by kernel_rfl) (by kernel_rfl) (fun _ _ _ h => h) rfl (by rfl) ?_ (by assumption) ?_
  rotate_left
  · (intro w hSw; (try dsimp only at hSw); go_simp; (try with_reducible rfl))
  try simp only [Act.put, List.setIfInBounds_toArray, List.set_cons_zero, List.set_cons_succ]
  refine take_w (i := 2) (d := some 37) (v := ?_) rfl (by kernel_rfl) (by kernel_rfl) (by kernel_rfl) (fun _ _ _ h => h) rfl (by rfl) ?_ (by assumption) ?_
  rotate_left
  · (intro w hSw; (try dsimp only at hSw); go_simp; (try with_reducible rfl))
  try simp only [Act.put, List.setIfInBounds_toArray, List.set_cons_zero, List.set_cons_succ]
  refine take_w (i := 3) (d := some 38) (v := ?_) rfl (by kernel_rfl) (by kernel_rfl) (by kernel_rfl) (fun _ _ _ h => h) rfl (by rfl) ?_ (by assumption) ?_
  rotate_left
  · (intro w hSw; (try dsimp only at hSw); go_simp; (try with_reducible rfl))
  try simp only [Act.put, List.setIfInBounds_toArray, List.set_cons_zero, List.set_cons_succ]
  refine take_w (i := 4) (d := some 39) (v := ?_) rfl (by kernel_rfl) (by kernel_rfl) (by kernel_rfl) (fun _ _ _ h => h) rfl (by rfl) ?_ (by assumption) ?_
  rotate_left
  · (intro w hSw; (try dsimp only at hSw); go_simp; (try with_reducible rfl))
  try simp only [Act.put, List.setIfInBounds_toArray, List.set_cons_zero, List.set_cons_succ]
  refine take_w (i := 5) (d := some 40) (v := ?_) rfl (by kernel_rfl) (by kernel_rfl) (by kernel_rfl) (fun _ _ _ h => h) rfl (by rfl) ?_ (by assumption) ?_
  rotate_left
  · (intro w hSw; (try dsimp only at hSw); go_simp; (try with_reducible rfl))
  try simp only [Act.put, List.setIfInBounds_toArray, List.set_cons_zero, List.set_cons_succ]
  refine take_w (i := 7) (d := some 42) (v := ?_) rfl (by kernel_rfl) (by kernel_rfl) (by kernel_rfl) (fun _ _ _ h => h) rfl (by rfl) ?_ (by assumption) ?_
  rotate_left
  · (intro w hSw; (try dsimp only at hSw); go_simp; (try with_reducible rfl))
  try simp only [Act.put, List.setIfInBounds_toArray, List.set_cons_zero, List.set_cons_succ]
  refine take_w (i := 8) (d := some 43) (v := ?_) rfl (by kernel_rfl) (by kernel_rfl) (by kernel_rfl) (fun _ _ _ h => h) rfl (by rfl) ?_ (by assumption) ?_
  rotate_left
  · (intro w hSw; (try dsimp only at hSw); go_simp; (try with_reducible rfl))
  try simp only [Act.put, List.setIfInBounds_toArray, List.set_cons_zero, List.set_cons_succ]
  refine take_w (i := 9) (d := some 44) (v := ?_) rfl (by kernel_rfl) (by kernel_rfl) (by kernel_rfl) (fun _ _ _ h => h) rfl (by rfl) ?_ (by assumption) ?_
  rotate_left
  · (intro w hSw; (try dsimp only at hSw); go_simp; (try with_reducible rfl))
  try simp only [Act.put, List.setIfInBounds_toArray, List.set_cons_zero, List.set_cons_succ]
  refine call_w (i := 6) rfl (by kernel_rfl) (by rfl) (fun K hK => ?_)
  go_simp
  go_at_call 98
  refine (HCF.out _ (Q.refl W1).drew).mono ?_
  rintro e w2 ⟨rfl, q2⟩
  replace q2 := Lib.hid ((Q.refl W1).drew.trans q2)
  refine hK.out _ _ ?_ (fun hHeld => ?_)
  · exact HKeep.out _ q2.out
  clear hK K
  try simp only [Act.put, List.setIfInBounds_toArray, List.set_cons_zero, List.set_cons_succ]
  refine take_w (i := 10) (d := some 45) (v := ?_) rfl (by kernel_rfl) (by kernel_rfl) (by kernel_rfl) (fun _ _ _ h => h) rfl (by rfl) ?_ (by assumption) ?_
  rotate_left
  · (intro w hSw; (try dsimp only at hSw); go_simp; (try with_reducible rfl))
  try simp only [Act.put, List.setIfInBounds_toArray, List.set_cons_zero, List.set_cons_succ]
  refine call_w (i := 11) rfl (by kernel_rfl) (by rfl) (fun K hK => ?_)
  have hT2 := HT.out.q q2.out
  have s1 := hT2.c1
  have f1 := hT2.f1
  have s2 := (Box4.set1 hT2 (.int .i64 x)).c2
  have f2 := (Box4.set1 hT2 (.int .i64 x)).f2
  go_simp
  refine hK.out _ _ ?_ (fun hHeld => ?_)
  · exact HS1.out _ _ q2.out
  clear hK K
  try simp only [Act.put, List.setIfInBounds_toArray, List.set_cons_zero, List.set_cons_succ]
  refine call_w (i := 12) rfl (by kernel_rfl) (by rfl) (fun K hK => ?_)
  go_simp
  refine hK.out _ _ ?_ (fun hHeld => ?_)
  · exact HS1.out _ _ q2.out
  clear hK K
  try simp only [Act.put, List.setIfInBounds_toArray, List.set_cons_zero, List.set_cons_succ]
  refine call_w (i := 13) rfl (by kernel_rfl) (by rfl) (fun K hK => ?_)
  go_simp
  refine hK.out _ _ ?_ (fun hHeld => ?_)
  · exact HS2.out _ _ _ q2.out
  clear hK K
  try simp only [Act.put, List.setIfInBounds_toArray, List.set_cons_zero, List.set_cons_succ]
  refine call_w (i := 14) rfl (by kernel_rfl) (by rfl) (fun K hK => ?_)
  go_simp
  refine hK.out _ _ ?_ (fun hHeld => ?_)
  · exact HS2.out _ _ _ q2.out
  clear hK K
  try simp only [Act.put, List.setIfInBounds_toArray, List.set_cons_zero, List.set_cons_succ]
  refine wpAnyH_done (by kernel_rfl) ?_ _
  have hT2 := HT.out.q q2.out
  have hT3 := (Box4.set2 (Box4.set1 hT2 (.int .i64 x)) (.int .i64 (N - 1)))
  have t0 := hT3.c0
  have t1 := hT3.c1
  have t2 := hT3.c2
  have t3 := hT3.c3
  have g0 := hT3.f0
  have g1 := hT3.f1
  have g2 := hT3.f2
  have g3 := hT3.f3
  have hT4 := hT3.all (.int .i64 6) (.int .i64 x) (.int .i64 (N - 1)) (.slice none 0 0)
  have y0 := hT4.c0
  have y1 := hT4.c1
  have y2 := hT4.c2
  have y3 := hT4.c3
  have hL3 := HMore.out _ (four_back (Q2set (HQ1.out.trans q2.out) HG.out (.int .i64 x) (.int .i64 (N - 1))) HG.out (.int .i64 6) (.int .i64 x) (.int .i64 (N - 1)) (.slice none 0 0))
  clear hT2 hT3 hT4
  go_wp2_with fail
  generalize (((((w2.setCell ⟨w.heap.size + 1, 1, none⟩ (.int .i64 x)).setCell ⟨w.heap.size + 1, 2, none⟩ (.int .i64 (N - 1))).setCell ⟨w.heap.size + 1, 0, none⟩ (.int .i64 6)).setCell ⟨w.heap.size + 1, 1, none⟩ (.int .i64 x)).setCell ⟨w.heap.size + 1, 2, none⟩ (.int .i64 (N - 1))).setCell ⟨w.heap.size + 1, 3, none⟩ (.slice none 0 0) = WF at *
  exact bodyPost_ret (v := .tuple #[.agg #[.int .i64 6, .int .i64 x, .int .i64 (N - 1), .slice none 0 0], .int .i64 1]) (by simp [results, Tryz.f78, go_sem, y0, y1, y2, y3]) rfl ⟨rfl, v, hL3⟩

theorem bare_any (w : World) (n : Tg) (h : LdS w0 w B b R cl L A S c d ks v own limit u wt lo hi) (hm : mayN n = true) (hl : L.length ≤ 1000) (hs : n.2.1.size ≤ 1000) (ho : own.length ≤ 100000) :
    Calls Tryz.prog 78 #[.pointer (some ⟨B, 0, none⟩), .agg #[.int .i64 n.1, .string n.2.1, .int .i64 n.2.2]] w (BarePost w0 B b R cl L A S c d ks own limit u wt lo hi n) := by
  obtain ⟨k, nm, N⟩ := n
  have hk := Ex.may_kinds hm
  simp only at hk hs
  have : k = 0 ∨ k = 1 ∨ k = 2 ∨ k = 3 ∨ k = 4 ∨ k = 5 ∨ k = 6 := by omega
  rcases this with rfl | rfl | rfl | rfl | rfl | rfl | rfl
  · exact bare_0 _ _ _ _ _ _ _ _ _ _ _ _ _ _ _ _ _ _ w nm N h hm
  · exact bare_1 _ _ _ _ _ _ _ _ _ _ _ _ _ _ _ _ _ _ w nm N h hm
  · exact bare_2 _ _ _ _ _ _ _ _ _ _ _ _ _ _ _ _ _ _ w nm N h hm hs ho
  · exact bare_3 _ _ _ _ _ _ _ _ _ _ _ _ _ _ _ _ _ _ w nm N h hm hl
  · exact bare_4 _ _ _ _ _ _ _ _ _ _ _ _ _ _ _ _ _ _ w nm N h hm
  · exact bare_5 _ _ _ _ _ _ _ _ _ _ _ _ _ _ _ _ _ _ w nm N h hm
  · exact bare_6 _ _ _ _ _ _ _ _ _ _ _ _ _ _ _ _ _ _ w nm N h hm hl
end
end Go.Proofs.YtdmdcggmgipdbaaGreatDoor.Ld
