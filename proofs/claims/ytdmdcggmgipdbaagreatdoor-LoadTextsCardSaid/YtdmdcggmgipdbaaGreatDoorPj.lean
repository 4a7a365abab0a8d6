/-
  What the proofs lean on, part 10 of 25.
-/
import Derived.Test.YtdmdcggmgipdbaaGreatDoorPi
import Derived.Deep.RegionHeld
import Derived.Deep.RegionHeld3
namespace Go.Proofs.YtdmdcggmgipdbaaGreatDoor.Ex
open Go.RowKit Kit Rw Nm

def nm (t : Tg) : List UInt8 := t.2.1.data.toList
/-- a part's text: in brackets, if it is of two parts, but of the same kind and the first one -/
def sideL (kind : Int) (first : Bool) (p : Int × List UInt8) : List UInt8 := if (p.1 = 4 ∨ p.1 = 5) ∧ (first = false ∨ p.1 ≠ kind) then 40 :: (p.2 ++ [41]) else p.2
/-- a figure's byte -/
def figD (m : Nat) : UInt8 := UInt8.ofNat (48 + m)
def conL (b : Bool) : List (Int × List UInt8) → List UInt8
  | [] => []
  | p :: r => (if b = true then 40 else 44) :: (p.2 ++ conL false r)
def nth (ps : List (Int × List UInt8)) (i : Nat) : Int × List UInt8 := ps[i]?.getD (0, [])
/-- a node's text, of its parts' -/
def txt (n : Tg) (ps : List (Int × List UInt8)) : List UInt8 :=
  if n.1 = 0 then [48] else if n.1 = 1 then [49] else if n.1 = 3 then nm n ++ conL true ps ++ (if ps = [] then [] else [41])
  else if n.1 = 4 then sideL 4 true (nth ps 0) ++ 124 :: sideL 4 false (nth ps 1) else if n.1 = 5 then sideL 5 true (nth ps 0) ++ 38 :: sideL 5 false (nth ps 1)
  else if n.1 = 6 then nm n ++ 126 :: figD n.2.2.toNat :: 40 :: ((nth ps 0).2 ++ [41]) else nm n
mutual
def Ex.text : Ex → List UInt8
  | .mk n ks => txt n (textsP ks)
def textsP : List Ex → List (Int × List UInt8)
  | [] => []
  | e :: r => (e.root.1, e.text) :: textsP r
end
theorem textsP_len (l : List Ex) : (textsP l).length = l.length := by
  induction l with
  | nil => rfl
  | cons e l ih => simp [textsP, ih]
theorem textsP_at (l : List Ex) (i : Nat) (h : i < l.length) : (textsP l)[i]'(by rw [textsP_len]; exact h) = (l[i].root.1, l[i].text) := by
  induction l generalizing i with
  | nil => simp at h
  | cons e l ih =>
    cases i with
    | zero => rfl
    | succ i => exact ih i (by simpa using h)
theorem conL_app (b : Bool) (ps : List (Int × List UInt8)) (p : Int × List UInt8) : conL b (ps ++ [p]) = conL b ps ++ ((if b = true ∧ ps = [] then 40 else 44) :: p.2) := by
  induction ps generalizing b with
  | nil => cases b <;> simp [conL]
  | cons q ps ih => simp [conL, ih]

/-- the text of the tree that ends at a node -/
def textAt (l : List Tg) (j : Nat) : List UInt8 := match treeAt l j with
  | some c => c.text
  | none => []
theorem text_of {l : List Tg} {j : Nat} {c : Ex} (h : treeAt l j = some c) : textAt l j = c.text := by unfold textAt; rw [h]
theorem root_of {l : List Tg} {st : List Ex} (hs : runS [] l = some st) {j : Nat} (hj : j < l.length) {c : Ex} (h : treeAt l j = some c) : c.root = l[j] := by
  obtain ⟨sk, hsk⟩ := run_take hs j
  obtain ⟨sn, hsn⟩ := run_take hs (j + 1)
  obtain ⟨_, e⟩ := run_next hj hsk hsn
  unfold treeAt at h
  rw [hsn, e] at h
  injection h with h
  rw [← h]; rfl
theorem tree_at {l : List Tg} {st : List Ex} (hs : runS [] l = some st) {j : Nat} (hj : j < l.length) {sk : List Ex} (hsk : runS [] (l.take j) = some sk) : treeAt l j = some (.mk l[j] (sk.take (np l[j])).reverse) ∧ np l[j] ≤ sk.length := by
  obtain ⟨sn, hsn⟩ := run_take hs (j + 1)
  obtain ⟨h1, e⟩ := run_next hj hsk hsn
  exact ⟨by unfold treeAt; rw [hsn, e]; rfl, h1⟩
def textsR (l : List Tg) (n : Nat) : List ByteArray := (List.range n).map fun j => bs (textAt l j)
theorem textsR_len (l : List Tg) (n : Nat) : (textsR l n).length = n := by simp [textsR]
theorem textsR_at (l : List Tg) (n j : Nat) (h : j < n) : (textsR l n)[j]'(by rw [textsR_len]; exact h) = bs (textAt l j) := by simp [textsR]
theorem textsR_next (l : List Tg) (n : Nat) : textsR l (n + 1) = textsR l n ++ [bs (textAt l n)] := by simp [textsR, List.range_succ]
def cellsS (l : List ByteArray) : List Value := l.map Value.string
theorem cellsS_len (l : List ByteArray) : (cellsS l).length = l.length := by simp [cellsS]
theorem cellsS_at {l : List ByteArray} {k : Nat} (h : k < l.length) : (cellsS l)[k]? = some (.string l[k]) := by simp [cellsS, h]
theorem cellsS_append (a b : List ByteArray) : cellsS (a ++ b) = cellsS a ++ cellsS b := by simp [cellsS]
theorem str_at {w : World} {B : Nat} {A : Option Addr} {l : List ByteArray} (h : Rds w B A (cellsS l)) {k : Nat} (hk : k < l.length) :
    ∃ ad, A = some ad ∧ ad.block < B ∧ w.cell? (ad.add k) = some (.string l[k]) := by
  obtain ⟨ad, e, hlt, hc⟩ := h (by rw [cellsS_len]; omega)
  exact ⟨ad, e, hlt, hc k _ (cellsS_at hk)⟩
theorem add_bs (a b : List UInt8) (u : World) (h : a.length + b.length ≤ 1000000) : (Op.stringOp .add (bs a) (bs b)).run Tryz.prog u = .ok (.string (bs (a ++ b))) u := by
  have e : bs a ++ bs b = bs (a ++ b) := by apply ByteArray.ext; simp [bs]
  rw [← e]
  exact run_string_add_sum (P := Tryz.prog) u _ _ (by rw [bs_size, bs_size]; omega)

set_option maxRecDepth 100000 in
set_option maxHeartbeats 1000000 in
theorem side_any (A S : Option Addr) (n c m d : Nat) (l : List Tg) (k : Nat) (a : Nat) (kind : Int) (first : Bool) (w : World) (hn : n = l.length) (hm : m = k) (hr : Rds w w.heap.size A (cellsG l)) (hS : Rds w w.heap.size S (cellsS (textsR l k)))
    (ha : a < l.length) (hak : a < k) (hl : (textAt l a).length ≤ 100000) :
    Calls Tryz.prog 54 #[.slice A n c, .slice S m d, .int .i64 (a : Int), .int .i64 kind, .bool first] w fun e w' => e = .returned (.string (bs (sideL kind first (l[a].1, textAt l a)))) ∧ w = w' := by
  subst hn hm
  obtain ⟨ad, rfl, hb, c0, c1, c2⟩ := tok_at hr ha
  obtain ⟨sd, rfl, hbs, y0⟩ := str_at hS (k := a) (by rw [textsR_len]; exact hak)
  rw [textsR_at l _ a hak] at y0
  have HD : Hid (sideL kind first (l[a].1, textAt l a) = if (l[a].1 = 4 ∨ l[a].1 = 5) ∧ (first = false ∨ l[a].1 ≠ kind) then 40 :: (textAt l a ++ [41]) else textAt l a) := rfl
  generalize l[a].1 = K at *
  generalize textAt l a = T at *
  have a1 : ∀ u : World, (Op.stringOp .add (⟨#[40]⟩ : ByteArray) (bs T)).run Tryz.prog u = .ok (.string (bs (40 :: T))) u := fun u => add_bs [40] T u (by simp; omega)
  have a2 : ∀ u : World, (Op.stringOp .add (bs (40 :: T)) (⟨#[41]⟩ : ByteArray)).run Tryz.prog u = .ok (.string (bs (40 :: (T ++ [41])))) u := fun u => add_bs (40 :: T) [41] u (by simp; omega)
  clear hr hS
  by_cases h4 : K = 4
  · have e4 : (K == 4) = true := beq_iff_eq.2 h4
    cases first
    · have HR : Hid (sideL kind false (K, T) = 40 :: (T ++ [41])) := by unfold Hid; rw [HD.out, if_pos ⟨.inl h4, .inl rfl⟩]
      clear h4 HD
      go_enter Tryz.func54, Tryz.ntmps54
      go_wp2_with fail
      go_ret
      exact ⟨by rw [HR.out]; rfl, by trivial⟩
    · by_cases hk : K = kind
      · have ek : (K != kind) = false := by simp [hk]
        have HR : Hid (sideL kind true (K, T) = T) := by unfold Hid; rw [HD.out, if_neg (by simp [hk])]
        clear h4 HD hk
        go_enter Tryz.func54, Tryz.ntmps54
        go_wp2_with fail
        go_ret
        exact ⟨by rw [HR.out]; rfl, by trivial⟩
      · have ek : (K != kind) = true := by simpa using hk
        have HR : Hid (sideL kind true (K, T) = 40 :: (T ++ [41])) := by unfold Hid; rw [HD.out, if_pos ⟨.inl h4, .inr hk⟩]
        clear h4 HD hk
        go_enter Tryz.func54, Tryz.ntmps54
        go_wp2_with fail
        go_ret
        exact ⟨by rw [HR.out]; rfl, by trivial⟩
  · have e4 : (K == 4) = false := beq_eq_false_iff_ne.2 h4
    by_cases h5 : K = 5
    · have e5 : (K == 5) = true := beq_iff_eq.2 h5
      cases first
      · have HR : Hid (sideL kind false (K, T) = 40 :: (T ++ [41])) := by unfold Hid; rw [HD.out, if_pos ⟨.inr h5, .inl rfl⟩]
        clear h4 h5 HD
        go_enter Tryz.func54, Tryz.ntmps54
        go_wp2_with fail
        go_ret
        exact ⟨by rw [HR.out]; rfl, by trivial⟩
      · by_cases hk : K = kind
        · have ek : (K != kind) = false := by simp [hk]
          have HR : Hid (sideL kind true (K, T) = T) := by unfold Hid; rw [HD.out, if_neg (by simp [hk])]
          clear h4 h5 HD hk
          go_enter Tryz.func54, Tryz.ntmps54
          go_wp2_with fail
          go_ret
          exact ⟨by rw [HR.out]; rfl, by trivial⟩
        · have ek : (K != kind) = true := by simpa using hk
          have HR : Hid (sideL kind true (K, T) = 40 :: (T ++ [41])) := by unfold Hid; rw [HD.out, if_pos ⟨.inr h5, .inr hk⟩]
          clear h4 h5 HD hk
          go_enter Tryz.func54, Tryz.ntmps54
          go_wp2_with fail
          go_ret
          exact ⟨by rw [HR.out]; rfl, by trivial⟩
    · have e5 : (K == 5) = false := beq_eq_false_iff_ne.2 h5
      have HR : Hid (sideL kind first (K, T) = T) := by unfold Hid; rw [HD.out, if_neg (by rintro ⟨h | h, _⟩; exact h4 h; exact h5 h)]
      clear h4 h5 HD
      go_enter Tryz.func54, Tryz.ntmps54
      go_wp2_with fail
      go_ret
      exact ⟨by rw [HR.out]; rfl, by trivial⟩

theorem convE (u : World) (m : Nat) (hm : m ≤ 8) : (convert 117 9 (.slice (some ⟨u.heap.size, 0, none⟩) 1 1)).run Tryz.prog (u.alloc (.cells #[.int .u8 (48 + (m : Int))] 5)) = .ok (.string ⟨#[figD m]⟩) (u.alloc (.cells #[.int .u8 (48 + (m : Int))] 5)) :=
  run_convert_bytes_back (P := Tryz.prog) _ 117 9 5 ⟨u.heap.size, 0, none⟩ 1 [figD m] Tryz.underlying117 Tryz.underlying5 Tryz.underlying9 (by
    intro j hj
    simp at hj
    subst hj
    rw [add_zero_head, cell_of_row _ _ _ _ _ _ (heap_alloc_new u _)]
    have e : ((figD m).toNat : Int) = 48 + (m : Int) := by unfold figD; rw [UInt8.toNat_ofNat']; omega
    rw [← e]
    rfl)
theorem figure_any7 (m : Nat) (hm : m ≤ 8) (w : World) :
    Calls Tryz.prog 55 #[.int .i64 (m : Int)] w fun e w' => e = .returned (.string ⟨#[figD m]⟩) ∧ Q w w' := by
  have hc := convE w m hm
  go_enter Tryz.func55, Tryz.ntmps55
  go_wp2_with fail
  go_ret
  exact ⟨rfl, (Q.refl _).alloc _⟩
end Go.Proofs.YtdmdcggmgipdbaaGreatDoor.Ex

namespace Go.Proofs.YtdmdcggmgipdbaaGreatDoor.Ex
open Go.RowKit Kit Rw Nm

theorem strInfo : (Tryz.prog.info? 9).map (fun i => (i.zero, i.size, i.bytes)) = some (some (.string ⟨#[]⟩), 1, 16) := by kernel_rfl
theorem may_kinds {t : Tg} (h : mayN t = true) : t.1 = 0 ∨ t.1 = 1 ∨ t.1 = 2 ∨ t.1 = 3 ∨ t.1 = 4 ∨ t.1 = 5 ∨ t.1 = 6 := by
  unfold mayN at h
  by_cases h0 : t.1 = 0 ∨ t.1 = 1
  · omega
  · rw [if_neg h0] at h
    by_cases h2 : t.1 = 2
    · omega
    · rw [if_neg h2] at h
      by_cases h3 : t.1 = 3
      · omega
      · rw [if_neg h3] at h
        by_cases h4 : t.1 = 4 ∨ t.1 = 5
        · omega
        · rw [if_neg h4] at h
          by_cases h6 : t.1 = 6
          · omega
          · rw [if_neg h6] at h; cases h
theorem conL_take (b : Bool) (ps : List (Int × List UInt8)) (p : Nat) : (conL b (ps.take p)).length ≤ (conL b ps).length := by
  induction ps generalizing b p with
  | nil => simp
  | cons q ps ih =>
    cases p with
    | zero => simp [conL]
    | succ p => simp only [List.take_succ_cons, conL, List.length_cons, List.length_append]; have := ih false p; omega
theorem np_two {t : Tg} (h : mayN t = true) (hk : t.1 = 4 ∨ t.1 = 5) : np t = 2 := by
  unfold mayN at h
  rw [if_neg (by omega), if_neg (by omega), if_neg (by omega), if_pos hk] at h
  simp only [Bool.and_eq_true, beq_iff_eq] at h
  unfold np partsN
  rw [if_neg (by omega), h.2]; rfl
theorem np_proj {t : Tg} (h : mayN t = true) (hk : t.1 = 6) : np t = 1 ∧ ∃ m : Nat, t.2.2 = (m : Int) ∧ 1 ≤ m ∧ m ≤ 8 := by
  unfold mayN at h
  rw [if_neg (by omega), if_neg (by omega), if_neg (by omega), if_neg (by omega), if_pos hk] at h
  simp only [Bool.and_eq_true, decide_eq_true_eq] at h
  unfold np partsN
  rw [if_pos hk]
  exact ⟨rfl, t.2.2.toNat, by omega, by omega, by omega⟩
theorem nth_at (ks : List Ex) (i : Nat) (h : i < ks.length) : nth (textsP ks) i = (ks[i].root.1, ks[i].text) := by
  unfold nth
  rw [List.getElem?_eq_getElem (by rw [textsP_len]; exact h), textsP_at ks i h]; rfl
theorem sideL_len (kind : Int) (first : Bool) (p : Int × List UInt8) : (sideL kind first p).length ≤ p.2.length + 2 := by
  unfold sideL; split <;> simp
/-- what Text needs of a row -/
structure Good7 (l : List Tg) (st : List Ex) : Prop where
  few : l.length ≤ 600
  pos : 0 < l.length
  may : ∀ t ∈ l, mayN t = true
  run : runS [] l = some st
  text : ∀ j, j < l.length → (textAt l j).length ≤ 20000
  name : ∀ t ∈ l, t.2.1.size ≤ 1000

set_option maxRecDepth 100000 in
set_option maxHeartbeats 16000000 in
theorem text7_any (A : Option Addr) (n c : Nat) (l : List Tg) (st : List Ex) (w : World) (hn : n = l.length) (hr : Rds w w.heap.size A (cellsG l)) (hg : Good7 l st) :
    Calls Tryz.prog 24 #[.slice A n c] w fun e w' => e = .returned (.string (bs (textAt l (l.length - 1)))) ∧ Q w w' := by
  subst hn
  obtain ⟨i0, hi, hz0, hz1, hz2⟩ := info_parts strInfo
  have Hi := Lib.hid hi
  have Hz0 := Lib.hid hz0
  have Hz1 := Lib.hid hz1
  have Hz2 := Lib.hid hz2
  clear hi hz0 hz1 hz2
  have HR := Lib.hid hr
  have HG := Lib.hid hg
  have hfew := hg.few
  have hpos := hg.pos
  have CS := Lib.hid (starts_any A l.length c l st w rfl hr (by omega) hg.may hg.run)
  clear hr hg
  go_enter Tryz.func24, Tryz.ntmps24
  go_wp2_with fail
  refine CS.out.mono ?_
  rintro e w1 ⟨S, cs, rfl, _, hS, q1⟩
  have HS := Lib.hid hS
  have HR1 := Lib.hid (HR.out.q q1)
  have HQ1 := Lib.hid q1
  clear hS q1 CS HR
  go_wp2_with fail
  go_loopw [4, 5] (fun texts i wr => ∃ (k : Nat) (v : Value), k ≤ l.length ∧ i = .int .i64 k ∧ v = texts ∧ Hid (wr.ownsRow w1.heap.size 9 1 v k (cellsS (textsR l k))) ∧ Hid (Q w1 wr)) (fun _ i _ => l.length - (intOf i).toNat)
  case atStart => exact ⟨0, _, Nat.zero_le _, rfl, rfl, Lib.hid (own_nil w1 _ _ _), Lib.hid (Q.refl w1)⟩
  case round =>
    obtain ⟨k, v, hk, rfl, rfl, HO, HQ⟩ := hrel
    by_cases hlt : k < l.length
    · obtain ⟨ad, rfl, hb, c0, c1, c2⟩ := tok_at (HR1.out.q HQ.out) hlt
      obtain ⟨sk, hsk⟩ := run_take HG.out.run k
      obtain ⟨htr, hnp⟩ := tree_at HG.out.run hlt hsk
      have HT : Hid (textAt l k = txt l[k] (textsP (sk.take (np l[k])).reverse)) := text_of htr
      have hlen := HG.out.text k hlt
      have HLN := Lib.hid hlen
      have HN := Lib.hid (textsR_next l k)
      have hname := HG.out.name l[k] (List.getElem_mem hlt)
      have CK : Hid (∀ W : World, Q w1 W → Calls Tryz.prog 53 #[.slice (some ad) l.length c, .slice S l.length cs, .int .i64 (k : Int)] W fun e w' => ∃ B kk K, e = .returned (.slice B (np l[k]) kk) ∧ np l[k] ≤ kk ∧ Rds w' w'.heap.size B (cellsN K) ∧ Ends l k (sk.take (np l[k])).reverse K ∧ Q W w') := fun W q =>
        kids_any (some ad) S l.length c l.length cs l st k sk W rfl rfl (HR1.out.q q) (HS.out.q q) (by omega) HG.out.may HG.out.run hlt hsk
      obtain ⟨Av, cv, rfl, hcv, hRv⟩ := own_read HO.out
      have HRV := Lib.hid hRv
      clear hRv
      have HKL : Hid ((sk.take (np l[k])).reverse.length = np l[k]) := by unfold Hid; rw [List.length_reverse, List.length_take]; omega
      have hnp8 := (parts_nat (HG.out.may l[k] (List.getElem_mem hlt))).2
      have hpn := (parts_nat (HG.out.may l[k] (List.getElem_mem hlt))).1
      generalize (sk.take (np l[k])).reverse = ks at *
      have HTR := Lib.hid htr
      have hkinds := may_kinds (HG.out.may l[k] (List.getElem_mem hlt))
      have HM := Lib.hid (HG.out.may l[k] (List.getElem_mem hlt))
      clear hsk htr hnp hlen
      have Hq0 := Lib.hid (HQ.out.alloc (Obj.cells #[.int .i64 l[k].1, .string l[k].2.1, .int .i64 l[k].2.2] 67))
      rcases hkinds with hK | hK | hK | hK | hK | hK | hK
      · have HTX : Hid (bs (textAt l k) = ⟨#[48]⟩) := by unfold Hid; rw [HT.out]; unfold txt; rw [if_pos hK]; rfl
        rw [hK] at c0
        have bx0 : (wr.alloc (Obj.cells #[.int .i64 0, .string l[k].2.1, .int .i64 l[k].2.2] 67)).cell? ⟨wr.heap.size, 0, none⟩ = some (.int .i64 0) := by rw [cell_of_row _ _ _ _ _ _ (heap_alloc_new wr _)]; rfl
        have bx1 : (wr.alloc (Obj.cells #[.int .i64 0, .string l[k].2.1, .int .i64 l[k].2.2] 67)).cell? ⟨wr.heap.size, 1, none⟩ = some (.string l[k].2.1) := by rw [cell_of_row _ _ _ _ _ _ (heap_alloc_new wr _)]; rfl
        have bx2 : (wr.alloc (Obj.cells #[.int .i64 0, .string l[k].2.1, .int .i64 l[k].2.2] 67)).cell? ⟨wr.heap.size, 2, none⟩ = some (.int .i64 l[k].2.2) := by rw [cell_of_row _ _ _ _ _ _ (heap_alloc_new wr _)]; rfl
        rw [hK] at Hq0
        clear hK
        go_wp2_with (first | (go_at_call 53; refine (CK.out _ Hq0.out).mono ?_; rintro e w2 ⟨Bk, kk, Kd, rfl, _, hKd, hE, q2⟩; have HKD := Lib.hid hKd; have HE := Lib.hid hE; have b0 := (q2.cell (p := ⟨wr.heap.size, 0, none⟩) (by simp)).trans bx0; have b1 := (q2.cell (p := ⟨wr.heap.size, 1, none⟩) (by simp)).trans bx1; have b2 := (q2.cell (p := ⟨wr.heap.size, 2, none⟩) (by simp)).trans bx2; have HQ2 := Lib.hid (Hq0.out.trans q2); have HSZ := Lib.hid (show wr.heap.size + 1 ≤ w2.heap.size by (have := q2.size; simpa using this)); have HO2 := Lib.hid (row_kept HO.out (((Q.refl wr).alloc _).trans q2) (Nat.le_refl _)); have HRV2 := Lib.hid (HRV.out.q (((Q.refl wr).alloc _).trans q2)); clear hKd hE q2) | (at_builtin; refine wpList_append_src _ rfl (.tmp 111) (.tmp 113) _ rfl w1.heap.size 9 i0 _ 1 16 Tryz.underlying27 Hi.out Hz0.out Hz1.out Hz2.out rfl (by omega) (.slice Av k cv) k (cellsS (textsR l k)) rfl (row_kept HO2.out ((Q.refl w2).alloc _) (Nat.le_refl _)) (some ⟨w2.heap.size, 0, none⟩) 1 1 [.string ⟨#[48]⟩] rfl rfl (src_alloc w2 [.string ⟨#[48]⟩] _ _) (by simp [Value.oneCell']) (by unfold maxLen; omega) (by omega) ((HQ2.out.alloc _).size) ?_; intro v' w' own' gr' _; have Own := Lib.hid own'; have HQ' : Hid (Q w1 w') := Below.grown (HQ2.out.alloc _) gr' ((HQ2.out.alloc _).size) (fun i e => (HO2.out.lt i e).1); clear own' gr'))
        go_roundw
        case rel => exact ⟨k + 1, v', by omega, by go_num, rfl, by rw [HN.out, cellsS_append, HTX.out]; exact Own, HQ'⟩
        case measure => simp [intOf]; omega
      · have HTX : Hid (bs (textAt l k) = ⟨#[49]⟩) := by unfold Hid; rw [HT.out]; unfold txt; rw [if_neg (by omega), if_pos hK]; rfl
        rw [hK] at c0
        have bx0 : (wr.alloc (Obj.cells #[.int .i64 1, .string l[k].2.1, .int .i64 l[k].2.2] 67)).cell? ⟨wr.heap.size, 0, none⟩ = some (.int .i64 1) := by rw [cell_of_row _ _ _ _ _ _ (heap_alloc_new wr _)]; rfl
        have bx1 : (wr.alloc (Obj.cells #[.int .i64 1, .string l[k].2.1, .int .i64 l[k].2.2] 67)).cell? ⟨wr.heap.size, 1, none⟩ = some (.string l[k].2.1) := by rw [cell_of_row _ _ _ _ _ _ (heap_alloc_new wr _)]; rfl
        have bx2 : (wr.alloc (Obj.cells #[.int .i64 1, .string l[k].2.1, .int .i64 l[k].2.2] 67)).cell? ⟨wr.heap.size, 2, none⟩ = some (.int .i64 l[k].2.2) := by rw [cell_of_row _ _ _ _ _ _ (heap_alloc_new wr _)]; rfl
        rw [hK] at Hq0
        clear hK
        go_wp2_with (first | (go_at_call 53; refine (CK.out _ Hq0.out).mono ?_; rintro e w2 ⟨Bk, kk, Kd, rfl, _, hKd, hE, q2⟩; have HKD := Lib.hid hKd; have HE := Lib.hid hE; have b0 := (q2.cell (p := ⟨wr.heap.size, 0, none⟩) (by simp)).trans bx0; have b1 := (q2.cell (p := ⟨wr.heap.size, 1, none⟩) (by simp)).trans bx1; have b2 := (q2.cell (p := ⟨wr.heap.size, 2, none⟩) (by simp)).trans bx2; have HQ2 := Lib.hid (Hq0.out.trans q2); have HSZ := Lib.hid (show wr.heap.size + 1 ≤ w2.heap.size by (have := q2.size; simpa using this)); have HO2 := Lib.hid (row_kept HO.out (((Q.refl wr).alloc _).trans q2) (Nat.le_refl _)); have HRV2 := Lib.hid (HRV.out.q (((Q.refl wr).alloc _).trans q2)); clear hKd hE q2) | (at_builtin; refine wpList_append_src _ rfl (.tmp 111) (.tmp 113) _ rfl w1.heap.size 9 i0 _ 1 16 Tryz.underlying27 Hi.out Hz0.out Hz1.out Hz2.out rfl (by omega) (.slice Av k cv) k (cellsS (textsR l k)) rfl (row_kept HO2.out ((Q.refl w2).alloc _) (Nat.le_refl _)) (some ⟨w2.heap.size, 0, none⟩) 1 1 [.string ⟨#[49]⟩] rfl rfl (src_alloc w2 [.string ⟨#[49]⟩] _ _) (by simp [Value.oneCell']) (by unfold maxLen; omega) (by omega) ((HQ2.out.alloc _).size) ?_; intro v' w' own' gr' _; have Own := Lib.hid own'; have HQ' : Hid (Q w1 w') := Below.grown (HQ2.out.alloc _) gr' ((HQ2.out.alloc _).size) (fun i e => (HO2.out.lt i e).1); clear own' gr'))
        go_roundw
        case rel => exact ⟨k + 1, v', by omega, by go_num, rfl, by rw [HN.out, cellsS_append, HTX.out]; exact Own, HQ'⟩
        case measure => simp [intOf]; omega
      · have HTX : Hid (bs (textAt l k) = l[k].2.1) := by unfold Hid; rw [HT.out]; unfold txt; rw [if_neg (by omega), if_neg (by omega), if_neg (by omega), if_neg (by omega), if_neg (by omega), if_neg (by omega)]; exact bs_back _
        rw [hK] at c0
        have bx0 : (wr.alloc (Obj.cells #[.int .i64 2, .string l[k].2.1, .int .i64 l[k].2.2] 67)).cell? ⟨wr.heap.size, 0, none⟩ = some (.int .i64 2) := by rw [cell_of_row _ _ _ _ _ _ (heap_alloc_new wr _)]; rfl
        have bx1 : (wr.alloc (Obj.cells #[.int .i64 2, .string l[k].2.1, .int .i64 l[k].2.2] 67)).cell? ⟨wr.heap.size, 1, none⟩ = some (.string l[k].2.1) := by rw [cell_of_row _ _ _ _ _ _ (heap_alloc_new wr _)]; rfl
        have bx2 : (wr.alloc (Obj.cells #[.int .i64 2, .string l[k].2.1, .int .i64 l[k].2.2] 67)).cell? ⟨wr.heap.size, 2, none⟩ = some (.int .i64 l[k].2.2) := by rw [cell_of_row _ _ _ _ _ _ (heap_alloc_new wr _)]; rfl
        rw [hK] at Hq0
        clear hK
        go_wp2_with (first | (go_at_call 53; refine (CK.out _ Hq0.out).mono ?_; rintro e w2 ⟨Bk, kk, Kd, rfl, _, hKd, hE, q2⟩; have HKD := Lib.hid hKd; have HE := Lib.hid hE; have b0 := (q2.cell (p := ⟨wr.heap.size, 0, none⟩) (by simp)).trans bx0; have b1 := (q2.cell (p := ⟨wr.heap.size, 1, none⟩) (by simp)).trans bx1; have b2 := (q2.cell (p := ⟨wr.heap.size, 2, none⟩) (by simp)).trans bx2; have HQ2 := Lib.hid (Hq0.out.trans q2); have HSZ := Lib.hid (show wr.heap.size + 1 ≤ w2.heap.size by (have := q2.size; simpa using this)); have HO2 := Lib.hid (row_kept HO.out (((Q.refl wr).alloc _).trans q2) (Nat.le_refl _)); have HRV2 := Lib.hid (HRV.out.q (((Q.refl wr).alloc _).trans q2)); clear hKd hE q2) | (at_builtin; refine wpList_append_src _ rfl (.tmp 111) (.tmp 113) _ rfl w1.heap.size 9 i0 _ 1 16 Tryz.underlying27 Hi.out Hz0.out Hz1.out Hz2.out rfl (by omega) (.slice Av k cv) k (cellsS (textsR l k)) rfl (row_kept HO2.out ((Q.refl w2).alloc _) (Nat.le_refl _)) (some ⟨w2.heap.size, 0, none⟩) 1 1 [.string l[k].2.1] rfl rfl (src_alloc w2 [.string l[k].2.1] _ _) (by simp [Value.oneCell']) (by unfold maxLen; omega) (by omega) ((HQ2.out.alloc _).size) ?_; intro v' w' own' gr' _; have Own := Lib.hid own'; have HQ' : Hid (Q w1 w') := Below.grown (HQ2.out.alloc _) gr' ((HQ2.out.alloc _).size) (fun i e => (HO2.out.lt i e).1); clear own' gr'))
        go_roundw
        case rel => exact ⟨k + 1, v', by omega, by go_num, rfl, by rw [HN.out, cellsS_append, HTX.out]; exact Own, HQ'⟩
        case measure => simp [intOf]; omega
      · have HTX0 : Hid (textAt l k = nm l[k] ++ conL true (textsP ks) ++ (if textsP ks = [] then [] else [41])) := by unfold Hid; rw [HT.out]; unfold txt; rw [if_neg (by omega), if_neg (by omega), if_pos hK]
        rw [hK] at c0
        have bx0 : (wr.alloc (Obj.cells #[.int .i64 3, .string l[k].2.1, .int .i64 l[k].2.2] 67)).cell? ⟨wr.heap.size, 0, none⟩ = some (.int .i64 3) := by rw [cell_of_row _ _ _ _ _ _ (heap_alloc_new wr _)]; rfl
        have bx1 : (wr.alloc (Obj.cells #[.int .i64 3, .string l[k].2.1, .int .i64 l[k].2.2] 67)).cell? ⟨wr.heap.size, 1, none⟩ = some (.string l[k].2.1) := by rw [cell_of_row _ _ _ _ _ _ (heap_alloc_new wr _)]; rfl
        have bx2 : (wr.alloc (Obj.cells #[.int .i64 3, .string l[k].2.1, .int .i64 l[k].2.2] 67)).cell? ⟨wr.heap.size, 2, none⟩ = some (.int .i64 l[k].2.2) := by rw [cell_of_row _ _ _ _ _ _ (heap_alloc_new wr _)]; rfl
        rw [hK] at Hq0
        clear hK
        have HPL : Hid ((textsP ks).length = np l[k]) := by unfold Hid; rw [textsP_len]; exact HKL.out
        have HCL : Hid ((nm l[k]).length + (conL true (textsP ks)).length ≤ 20000) := by have h1 := HLN.out; rw [HTX0.out] at h1; simp only [List.length_append] at h1; unfold Hid; omega
        go_wp2_with (go_at_call 53; refine (CK.out _ Hq0.out).mono ?_; rintro e w2 ⟨Bk, kk, Kd, rfl, _, hKd, hE, q2⟩; have HKD := Lib.hid hKd; have HE := Lib.hid hE; have b0 := (q2.cell (p := ⟨wr.heap.size, 0, none⟩) (by simp)).trans bx0; have b1 := (q2.cell (p := ⟨wr.heap.size, 1, none⟩) (by simp)).trans bx1; have b2 := (q2.cell (p := ⟨wr.heap.size, 2, none⟩) (by simp)).trans bx2; have HQ2 := Lib.hid (Hq0.out.trans q2); have HSZ := Lib.hid (show wr.heap.size + 1 ≤ w2.heap.size by (have := q2.size; simpa using this)); have HO2 := Lib.hid (row_kept HO.out (((Q.refl wr).alloc _).trans q2) (Nat.le_refl _)); have HRV2 := Lib.hid (HRV.out.q (((Q.refl wr).alloc _).trans q2)); clear hKd hE q2)
        have HKl : Hid (Kd.length = np l[k]) := by unfold Hid; rw [HE.out.len]; exact HKL.out
        go_loopw [8, 9] (fun s i wr => ∃ p : Nat, p ≤ np l[k] ∧ i = .int .i64 p ∧ s = .string (bs (nm l[k] ++ conL true ((textsP ks).take p))) ∧ wr = w2) (fun _ i _ => np l[k] - (intOf i).toNat)
        case atStart => exact ⟨0, Nat.zero_le _, rfl, congrArg Value.string (by simp [conL, nm, bs_back]), rfl⟩
        case round =>
          obtain ⟨p, hp, rfl, rfl, rfl⟩ := hrel
          by_cases hpl : p < np l[k]
          · have dp : decide ((p : Int) < (np l[k] : Int)) = true := decide_eq_true (by omega)
            have hpk : p < Kd.length := by rw [HKl.out]; exact hpl
            have hps : p < ks.length := by rw [HKL.out]; exact hpl
            have hpt : p < (textsP ks).length := by rw [HPL.out]; exact hpl
            obtain ⟨kd, rfl, hkb, hkc⟩ := nat_at HKD.out hpk
            obtain ⟨hx, htx⟩ := HE.out.each p hpk hps
            obtain ⟨td, rfl, htb, htc⟩ := str_at HRV2.out (k := Kd[p]) (by rw [textsR_len]; exact hx)
            rw [textsR_at l k _ hx, text_of htx] at htc
            have hTl : ks[p].text.length ≤ 20000 := by have := HG.out.text Kd[p] (by omega); rw [text_of htx] at this; exact this
            have HX : Hid (conL true ((textsP ks).take (p + 1)) = conL true ((textsP ks).take p) ++ ((if p = 0 then 40 else 44) :: ks[p].text)) := by
              unfold Hid; rw [List.take_succ_eq_append_getElem hpt, conL_app, textsP_at ks p hps]
              have e : (textsP ks).take p = [] ↔ p = 0 := by
                constructor
                · intro h; have := congrArg List.length h; rw [List.length_take, List.length_nil] at this; omega
                · rintro rfl; rfl
              simp only [true_and, e]
            have hXl : (nm l[k] ++ conL true ((textsP ks).take p)).length ≤ 20000 := by rw [List.length_append]; have := conL_take true (textsP ks) p; have := HCL.out; omega
            generalize Kd[p] = x at *
            generalize ks[p].text = T at *
            generalize hX : nm l[k] ++ conL true ((textsP ks).take p) = X at *
            have HXe := Lib.hid hX
            clear hX htx
            by_cases hp0 : p = 0
            · have dz : ((p : Int) == 0) = true := beq_iff_eq.2 (by omega)
              have a1 : ∀ u : World, (Op.stringOp .add (bs X) (⟨#[40]⟩ : ByteArray)).run Tryz.prog u = .ok (.string (bs (X ++ [40]))) u := fun u => add_bs X [40] u (by simp; omega)
              have a2 : ∀ u : World, (Op.stringOp .add (bs (X ++ [40])) (bs T)).run Tryz.prog u = .ok (.string (bs (X ++ [40] ++ T))) u := fun u => add_bs _ _ u (by simp; omega)
              have HXn : Hid (nm l[k] ++ conL true ((textsP ks).take (p + 1)) = X ++ [40] ++ T) := by unfold Hid; rw [HX.out, if_pos hp0, ← List.append_assoc, HXe.out]; simp
              clear HX hp0
              go_wp2_with fail
              go_roundw
              case rel => exact ⟨p + 1, by omega, by go_num, by rw [HXn.out]; simp, by trivial⟩
              case measure => simp [intOf]; omega
            · have dz : ((p : Int) == 0) = false := beq_eq_false_iff_ne.2 (by omega)
              have a1 : ∀ u : World, (Op.stringOp .add (bs X) (⟨#[44]⟩ : ByteArray)).run Tryz.prog u = .ok (.string (bs (X ++ [44]))) u := fun u => add_bs X [44] u (by simp; omega)
              have a2 : ∀ u : World, (Op.stringOp .add (bs (X ++ [44])) (bs T)).run Tryz.prog u = .ok (.string (bs (X ++ [44] ++ T))) u := fun u => add_bs _ _ u (by simp; omega)
              have HXn : Hid (nm l[k] ++ conL true ((textsP ks).take (p + 1)) = X ++ [44] ++ T) := by unfold Hid; rw [HX.out, if_neg hp0, ← List.append_assoc, HXe.out]; simp
              clear HX hp0
              go_wp2_with fail
              go_roundw
              case rel => exact ⟨p + 1, by omega, by go_num, by rw [HXn.out]; simp, by trivial⟩
              case measure => simp [intOf]; omega
          · have dp : decide ((p : Int) < (np l[k] : Int)) = false := decide_eq_false (by omega)
            have hpn : p = np l[k] := by omega
            have HXt : Hid ((textsP ks).take p = textsP ks) := by unfold Hid; rw [List.take_of_length_le (by rw [HPL.out, hpn]; exact Nat.le_refl _)]
            rw [HXt.out]
            have hXl := HCL.out
            rw [← List.length_append] at hXl
            by_cases h0 : 0 < np l[k]
            · have d0 : decide (0 < (np l[k] : Int)) = true := decide_eq_true (by omega)
              have HTX : Hid (bs (textAt l k) = bs (nm l[k] ++ conL true (textsP ks) ++ [41])) := by unfold Hid; rw [HTX0.out, if_neg (fun e => by have := HPL.out; rw [e] at this; simp at this; omega)]
              generalize nm l[k] ++ conL true (textsP ks) = X at *
              have a1 : ∀ u : World, (Op.stringOp .add (bs X) (⟨#[41]⟩ : ByteArray)).run Tryz.prog u = .ok (.string (bs (X ++ [41]))) u := fun u => add_bs X [41] u (by simp; omega)
              go_wp2_with (at_builtin; refine wpList_append_src _ rfl (.tmp 111) (.tmp 113) _ rfl w1.heap.size 9 i0 _ 1 16 Tryz.underlying27 Hi.out Hz0.out Hz1.out Hz2.out rfl (by omega) (.slice Av k cv) k (cellsS (textsR l k)) rfl (row_kept HO2.out ((Q.refl wr).alloc _) (Nat.le_refl _)) (some ⟨wr.heap.size, 0, none⟩) 1 1 [.string (bs (X ++ [41]))] rfl rfl (src_alloc wr [.string (bs (X ++ [41]))] _ _) (by simp [Value.oneCell']) (by unfold maxLen; omega) (by omega) ((HQ2.out.alloc _).size) ?_; intro v' w' own' gr' _; have Own := Lib.hid own'; have HQ' : Hid (Q w1 w') := Below.grown (HQ2.out.alloc _) gr' ((HQ2.out.alloc _).size) (fun i e => (HO2.out.lt i e).1); clear own' gr')
              go_roundw
              case rel => exact ⟨k + 1, v', by omega, by go_num, rfl, by rw [HN.out, cellsS_append, HTX.out]; exact Own, HQ'⟩
              case measure => simp [intOf]; omega
            · have d0 : decide (0 < (np l[k] : Int)) = false := decide_eq_false (by omega)
              have HTX : Hid (bs (textAt l k) = bs (nm l[k] ++ conL true (textsP ks))) := by unfold Hid; rw [HTX0.out, if_pos (List.eq_nil_of_length_eq_zero (by rw [HPL.out]; omega)), List.append_nil]
              generalize nm l[k] ++ conL true (textsP ks) = X at *
              go_wp2_with (at_builtin; refine wpList_append_src _ rfl (.tmp 111) (.tmp 113) _ rfl w1.heap.size 9 i0 _ 1 16 Tryz.underlying27 Hi.out Hz0.out Hz1.out Hz2.out rfl (by omega) (.slice Av k cv) k (cellsS (textsR l k)) rfl (row_kept HO2.out ((Q.refl wr).alloc _) (Nat.le_refl _)) (some ⟨wr.heap.size, 0, none⟩) 1 1 [.string (bs X)] rfl rfl (src_alloc wr [.string (bs X)] _ _) (by simp [Value.oneCell']) (by unfold maxLen; omega) (by omega) ((HQ2.out.alloc _).size) ?_; intro v' w' own' gr' _; have Own := Lib.hid own'; have HQ' : Hid (Q w1 w') := Below.grown (HQ2.out.alloc _) gr' ((HQ2.out.alloc _).size) (fun i e => (HO2.out.lt i e).1); clear own' gr')
              go_roundw
              case rel => exact ⟨k + 1, v', by omega, by go_num, rfl, by rw [HN.out, cellsS_append, HTX.out]; exact Own, HQ'⟩
              case measure => simp [intOf]; omega
      · have h2 : np l[k] = 2 := np_two HM.out (by omega)
        rw [hK] at c0
        have bx0 : (wr.alloc (Obj.cells #[.int .i64 4, .string l[k].2.1, .int .i64 l[k].2.2] 67)).cell? ⟨wr.heap.size, 0, none⟩ = some (.int .i64 4) := by rw [cell_of_row _ _ _ _ _ _ (heap_alloc_new wr _)]; rfl
        have bx1 : (wr.alloc (Obj.cells #[.int .i64 4, .string l[k].2.1, .int .i64 l[k].2.2] 67)).cell? ⟨wr.heap.size, 1, none⟩ = some (.string l[k].2.1) := by rw [cell_of_row _ _ _ _ _ _ (heap_alloc_new wr _)]; rfl
        have bx2 : (wr.alloc (Obj.cells #[.int .i64 4, .string l[k].2.1, .int .i64 l[k].2.2] 67)).cell? ⟨wr.heap.size, 2, none⟩ = some (.int .i64 l[k].2.2) := by rw [cell_of_row _ _ _ _ _ _ (heap_alloc_new wr _)]; rfl
        rw [hK] at Hq0
        go_wp2_with (go_at_call 53; refine (CK.out _ Hq0.out).mono ?_; rintro e w2 ⟨Bk, kk, Kd, rfl, _, hKd, hE, q2⟩; have HKD := Lib.hid hKd; have HE := Lib.hid hE; have b0 := (q2.cell (p := ⟨wr.heap.size, 0, none⟩) (by simp)).trans bx0; have b1 := (q2.cell (p := ⟨wr.heap.size, 1, none⟩) (by simp)).trans bx1; have b2 := (q2.cell (p := ⟨wr.heap.size, 2, none⟩) (by simp)).trans bx2; have HQ2 := Lib.hid (Hq0.out.trans q2); have HSZ := Lib.hid (show wr.heap.size + 1 ≤ w2.heap.size by (have := q2.size; simpa using this)); have HO2 := Lib.hid (row_kept HO.out (((Q.refl wr).alloc _).trans q2) (Nat.le_refl _)); have HRV2 := Lib.hid (HRV.out.q (((Q.refl wr).alloc _).trans q2)); clear hKd hE q2)
        have hKl : Kd.length = np l[k] := by rw [HE.out.len]; exact HKL.out
        have hks := HKL.out
        obtain ⟨kd, rfl, hkb, hk0⟩ := nat_at HKD.out (k := 0) (by omega)
        obtain ⟨kd', ekd, _, hk1⟩ := nat_at HKD.out (k := 1) (by omega)
        injection ekd with ekd
        subst ekd
        obtain ⟨hx0, ht0⟩ := HE.out.each 0 (by omega) (by omega)
        obtain ⟨hx1, ht1⟩ := HE.out.each 1 (by omega) (by omega)
        have e0 : kd.add 0 = kd := by simp [Addr.add]
        have e1 : kd.add 1 = ⟨kd.block, kd.off + 1, none⟩ := by simp [Addr.add]
        rw [e0] at hk0
        rw [e1] at hk1
        have r0 := root_of HG.out.run (by omega) ht0
        have r1 := root_of HG.out.run (by omega) ht1
        have l0 := HG.out.text Kd[0] (by omega)
        have l1 := HG.out.text Kd[1] (by omega)
        have HRW := Lib.hid (HR1.out.q HQ2.out)
        have C0 : Hid (∀ n, Calls Tryz.prog 54 #[.slice (some ad) l.length c, .slice Av k cv, .int .i64 (Kd[0] : Int), .int .i64 4, .bool true] (w2.drewN n) fun e w' => e = .returned (.string (bs (sideL 4 true (l[Kd[0]].1, textAt l Kd[0])))) ∧ w' = w2.drewN n) := fun n =>
          (side_any (some ad) Av l.length c k cv l k Kd[0] 4 true (w2.drewN n) rfl rfl (HRW.out.q ((Q.refl w2).drewN n)) (HRV2.out.q ((Q.refl w2).drewN n)) (by omega) hx0 (by omega)).mono (by rintro e w' ⟨h1, h2⟩; exact ⟨h1, h2.symm⟩)
        have C1 : Hid (∀ n, Calls Tryz.prog 54 #[.slice (some ad) l.length c, .slice Av k cv, .int .i64 (Kd[1] : Int), .int .i64 4, .bool false] (w2.drewN n) fun e w' => e = .returned (.string (bs (sideL 4 false (l[Kd[1]].1, textAt l Kd[1])))) ∧ w' = w2.drewN n) := fun n =>
          (side_any (some ad) Av l.length c k cv l k Kd[1] 4 false (w2.drewN n) rfl rfl (HRW.out.q ((Q.refl w2).drewN n)) (HRV2.out.q ((Q.refl w2).drewN n)) (by omega) hx1 (by omega)).mono (by rintro e w' ⟨h1, h2⟩; exact ⟨h1, h2.symm⟩)
        have HTX : Hid (textAt l k = sideL 4 true (l[Kd[0]].1, textAt l Kd[0]) ++ (124 : UInt8) :: sideL 4 false (l[Kd[1]].1, textAt l Kd[1])) := by
          unfold Hid; rw [HT.out]; unfold txt; rw [if_neg (by omega), if_neg (by omega), if_neg (by omega), if_pos hK, nth_at ks 0 (by omega), nth_at ks 1 (by omega), r0, r1, text_of ht0, text_of ht1]
        have s0' : (sideL 4 true (l[Kd[0]].1, textAt l Kd[0])).length ≤ 30000 := Nat.le_trans (sideL_len _ _ _) (by show (textAt l Kd[0]).length + 2 ≤ _; omega)
        have s1' : (sideL 4 false (l[Kd[1]].1, textAt l Kd[1])).length ≤ 30000 := Nat.le_trans (sideL_len _ _ _) (by show (textAt l Kd[1]).length + 2 ≤ _; omega)
        generalize sideL 4 true (l[Kd[0]].1, textAt l Kd[0]) = X0 at *
        generalize sideL 4 false (l[Kd[1]].1, textAt l Kd[1]) = X1 at *
        clear r0 r1 l0 l1 ht0 ht1 e0 e1 hK
        generalize Kd[0] = x0 at *
        generalize Kd[1] = x1 at *
        clear hks hKl
        have a1 : ∀ u : World, (Op.stringOp .add (bs X0) (⟨#[124]⟩ : ByteArray)).run Tryz.prog u = .ok (.string (bs (X0 ++ [124]))) u := fun u => add_bs X0 [124] u (by simp; omega)
        have a2 : ∀ u : World, (Op.stringOp .add (bs (X0 ++ [124])) (bs X1)).run Tryz.prog u = .ok (.string (bs (X0 ++ 124 :: X1))) u := fun u => by have := add_bs (X0 ++ [124]) X1 u (by simp; omega); simpa using this
        have i0' : 0 < np l[k] := by omega
        have i1' : 1 < np l[k] := by omega
        have i0i : (0 : Int) < (np l[k] : Int) := by omega
        have i1i : (1 : Int) < (np l[k] : Int) := by omega
        clear h2
        go_quiet (first | (go_at_call 54; with_reducible exact Calls.quiet_of_same (C0.out _)) | (go_at_call 54; with_reducible exact Calls.quiet_of_same (C1.out _)))
        have HO3 := Lib.hid (row_kept HO2.out ((Q.refl w2).drewN nq) (Nat.le_refl _))
        have HQ3 := Lib.hid (HQ2.out.drewN nq)
        clear C0 C1 b0 b1 b2 HRW HRV2 hk0 hk1
        generalize w2.drewN nq = w3 at *
        go_wp2_with (at_builtin; refine wpList_append_src _ rfl (.tmp 111) (.tmp 113) _ rfl w1.heap.size 9 i0 _ 1 16 Tryz.underlying27 Hi.out Hz0.out Hz1.out Hz2.out rfl (by omega) (.slice Av k cv) k (cellsS (textsR l k)) rfl (row_kept HO3.out ((Q.refl w3).alloc _) (Nat.le_refl _)) (some ⟨w3.heap.size, 0, none⟩) 1 1 [.string (bs (X0 ++ 124 :: X1))] rfl rfl (src_alloc w3 [.string (bs (X0 ++ 124 :: X1))] _ _) (by simp [Value.oneCell']) (by unfold maxLen; omega) (by omega) ((HQ3.out.alloc _).size) ?_; intro v' w' own' gr' _; have Own := Lib.hid own'; have HQ' : Hid (Q w1 w') := Below.grown (HQ3.out.alloc _) gr' ((HQ3.out.alloc _).size) (fun i e => (HO3.out.lt i e).1); clear own' gr')
        go_roundw
        case rel => exact ⟨k + 1, v', by omega, by go_num, rfl, by rw [HN.out, cellsS_append, HTX.out]; exact Own, HQ'⟩
        case measure => simp [intOf]; omega
      · have h2 : np l[k] = 2 := np_two HM.out (by omega)
        rw [hK] at c0
        have bx0 : (wr.alloc (Obj.cells #[.int .i64 5, .string l[k].2.1, .int .i64 l[k].2.2] 67)).cell? ⟨wr.heap.size, 0, none⟩ = some (.int .i64 5) := by rw [cell_of_row _ _ _ _ _ _ (heap_alloc_new wr _)]; rfl
        have bx1 : (wr.alloc (Obj.cells #[.int .i64 5, .string l[k].2.1, .int .i64 l[k].2.2] 67)).cell? ⟨wr.heap.size, 1, none⟩ = some (.string l[k].2.1) := by rw [cell_of_row _ _ _ _ _ _ (heap_alloc_new wr _)]; rfl
        have bx2 : (wr.alloc (Obj.cells #[.int .i64 5, .string l[k].2.1, .int .i64 l[k].2.2] 67)).cell? ⟨wr.heap.size, 2, none⟩ = some (.int .i64 l[k].2.2) := by rw [cell_of_row _ _ _ _ _ _ (heap_alloc_new wr _)]; rfl
        rw [hK] at Hq0
        go_wp2_with (go_at_call 53; refine (CK.out _ Hq0.out).mono ?_; rintro e w2 ⟨Bk, kk, Kd, rfl, _, hKd, hE, q2⟩; have HKD := Lib.hid hKd; have HE := Lib.hid hE; have b0 := (q2.cell (p := ⟨wr.heap.size, 0, none⟩) (by simp)).trans bx0; have b1 := (q2.cell (p := ⟨wr.heap.size, 1, none⟩) (by simp)).trans bx1; have b2 := (q2.cell (p := ⟨wr.heap.size, 2, none⟩) (by simp)).trans bx2; have HQ2 := Lib.hid (Hq0.out.trans q2); have HSZ := Lib.hid (show wr.heap.size + 1 ≤ w2.heap.size by (have := q2.size; simpa using this)); have HO2 := Lib.hid (row_kept HO.out (((Q.refl wr).alloc _).trans q2) (Nat.le_refl _)); have HRV2 := Lib.hid (HRV.out.q (((Q.refl wr).alloc _).trans q2)); clear hKd hE q2)
        have hKl : Kd.length = np l[k] := by rw [HE.out.len]; exact HKL.out
        have hks := HKL.out
        obtain ⟨kd, rfl, hkb, hk0⟩ := nat_at HKD.out (k := 0) (by omega)
        obtain ⟨kd', ekd, _, hk1⟩ := nat_at HKD.out (k := 1) (by omega)
        injection ekd with ekd
        subst ekd
        obtain ⟨hx0, ht0⟩ := HE.out.each 0 (by omega) (by omega)
        obtain ⟨hx1, ht1⟩ := HE.out.each 1 (by omega) (by omega)
        have e0 : kd.add 0 = kd := by simp [Addr.add]
        have e1 : kd.add 1 = ⟨kd.block, kd.off + 1, none⟩ := by simp [Addr.add]
        rw [e0] at hk0
        rw [e1] at hk1
        have r0 := root_of HG.out.run (by omega) ht0
        have r1 := root_of HG.out.run (by omega) ht1
        have l0 := HG.out.text Kd[0] (by omega)
        have l1 := HG.out.text Kd[1] (by omega)
        have HRW := Lib.hid (HR1.out.q HQ2.out)
        have C0 : Hid (∀ n, Calls Tryz.prog 54 #[.slice (some ad) l.length c, .slice Av k cv, .int .i64 (Kd[0] : Int), .int .i64 5, .bool true] (w2.drewN n) fun e w' => e = .returned (.string (bs (sideL 5 true (l[Kd[0]].1, textAt l Kd[0])))) ∧ w' = w2.drewN n) := fun n =>
          (side_any (some ad) Av l.length c k cv l k Kd[0] 5 true (w2.drewN n) rfl rfl (HRW.out.q ((Q.refl w2).drewN n)) (HRV2.out.q ((Q.refl w2).drewN n)) (by omega) hx0 (by omega)).mono (by rintro e w' ⟨h1, h2⟩; exact ⟨h1, h2.symm⟩)
        have C1 : Hid (∀ n, Calls Tryz.prog 54 #[.slice (some ad) l.length c, .slice Av k cv, .int .i64 (Kd[1] : Int), .int .i64 5, .bool false] (w2.drewN n) fun e w' => e = .returned (.string (bs (sideL 5 false (l[Kd[1]].1, textAt l Kd[1])))) ∧ w' = w2.drewN n) := fun n =>
          (side_any (some ad) Av l.length c k cv l k Kd[1] 5 false (w2.drewN n) rfl rfl (HRW.out.q ((Q.refl w2).drewN n)) (HRV2.out.q ((Q.refl w2).drewN n)) (by omega) hx1 (by omega)).mono (by rintro e w' ⟨h1, h2⟩; exact ⟨h1, h2.symm⟩)
        have HTX : Hid (textAt l k = sideL 5 true (l[Kd[0]].1, textAt l Kd[0]) ++ (38 : UInt8) :: sideL 5 false (l[Kd[1]].1, textAt l Kd[1])) := by
          unfold Hid; rw [HT.out]; unfold txt; rw [if_neg (by omega), if_neg (by omega), if_neg (by omega), if_neg (by omega), if_pos hK, nth_at ks 0 (by omega), nth_at ks 1 (by omega), r0, r1, text_of ht0, text_of ht1]
        have s0' : (sideL 5 true (l[Kd[0]].1, textAt l Kd[0])).length ≤ 30000 := Nat.le_trans (sideL_len _ _ _) (by show (textAt l Kd[0]).length + 2 ≤ _; omega)
        have s1' : (sideL 5 false (l[Kd[1]].1, textAt l Kd[1])).length ≤ 30000 := Nat.le_trans (sideL_len _ _ _) (by show (textAt l Kd[1]).length + 2 ≤ _; omega)
        generalize sideL 5 true (l[Kd[0]].1, textAt l Kd[0]) = X0 at *
        generalize sideL 5 false (l[Kd[1]].1, textAt l Kd[1]) = X1 at *
        clear r0 r1 l0 l1 ht0 ht1 e0 e1 hK
        generalize Kd[0] = x0 at *
        generalize Kd[1] = x1 at *
        clear hks hKl
        have a1 : ∀ u : World, (Op.stringOp .add (bs X0) (⟨#[38]⟩ : ByteArray)).run Tryz.prog u = .ok (.string (bs (X0 ++ [38]))) u := fun u => add_bs X0 [38] u (by simp; omega)
        have a2 : ∀ u : World, (Op.stringOp .add (bs (X0 ++ [38])) (bs X1)).run Tryz.prog u = .ok (.string (bs (X0 ++ 38 :: X1))) u := fun u => by have := add_bs (X0 ++ [38]) X1 u (by simp; omega); simpa using this
        have i0' : 0 < np l[k] := by omega
        have i1' : 1 < np l[k] := by omega
        have i0i : (0 : Int) < (np l[k] : Int) := by omega
        have i1i : (1 : Int) < (np l[k] : Int) := by omega
        clear h2
        go_quiet (first | (go_at_call 54; with_reducible exact Calls.quiet_of_same (C0.out _)) | (go_at_call 54; with_reducible exact Calls.quiet_of_same (C1.out _)))
        have HO3 := Lib.hid (row_kept HO2.out ((Q.refl w2).drewN nq) (Nat.le_refl _))
        have HQ3 := Lib.hid (HQ2.out.drewN nq)
        clear C0 C1 b0 b1 b2 HRW HRV2 hk0 hk1
        generalize w2.drewN nq = w3 at *
        go_wp2_with (at_builtin; refine wpList_append_src _ rfl (.tmp 111) (.tmp 113) _ rfl w1.heap.size 9 i0 _ 1 16 Tryz.underlying27 Hi.out Hz0.out Hz1.out Hz2.out rfl (by omega) (.slice Av k cv) k (cellsS (textsR l k)) rfl (row_kept HO3.out ((Q.refl w3).alloc _) (Nat.le_refl _)) (some ⟨w3.heap.size, 0, none⟩) 1 1 [.string (bs (X0 ++ 38 :: X1))] rfl rfl (src_alloc w3 [.string (bs (X0 ++ 38 :: X1))] _ _) (by simp [Value.oneCell']) (by unfold maxLen; omega) (by omega) ((HQ3.out.alloc _).size) ?_; intro v' w' own' gr' _; have Own := Lib.hid own'; have HQ' : Hid (Q w1 w') := Below.grown (HQ3.out.alloc _) gr' ((HQ3.out.alloc _).size) (fun i e => (HO3.out.lt i e).1); clear own' gr')
        go_roundw
        case rel => exact ⟨k + 1, v', by omega, by go_num, rfl, by rw [HN.out, cellsS_append, HTX.out]; exact Own, HQ'⟩
        case measure => simp [intOf]; omega
      · obtain ⟨h2, m, hm, hm1, hm8⟩ := np_proj HM.out hK
        have HMt := Lib.hid hm
        rw [hK] at c0
        have bx0 : (wr.alloc (Obj.cells #[.int .i64 6, .string l[k].2.1, .int .i64 l[k].2.2] 67)).cell? ⟨wr.heap.size, 0, none⟩ = some (.int .i64 6) := by rw [cell_of_row _ _ _ _ _ _ (heap_alloc_new wr _)]; rfl
        have bx1 : (wr.alloc (Obj.cells #[.int .i64 6, .string l[k].2.1, .int .i64 l[k].2.2] 67)).cell? ⟨wr.heap.size, 1, none⟩ = some (.string l[k].2.1) := by rw [cell_of_row _ _ _ _ _ _ (heap_alloc_new wr _)]; rfl
        have bx2 : (wr.alloc (Obj.cells #[.int .i64 6, .string l[k].2.1, .int .i64 l[k].2.2] 67)).cell? ⟨wr.heap.size, 2, none⟩ = some (.int .i64 l[k].2.2) := by rw [cell_of_row _ _ _ _ _ _ (heap_alloc_new wr _)]; rfl
        rw [hK] at Hq0
        rw [hm] at bx0 bx1 bx2 Hq0 c2
        have HTX0 : Hid (textAt l k = nm l[k] ++ 126 :: figD m :: 40 :: ((nth (textsP ks) 0).2 ++ [41])) := by unfold Hid; rw [HT.out]; unfold txt; rw [if_neg (by omega), if_neg (by omega), if_neg (by omega), if_neg (by omega), if_neg (by omega), if_pos hK, HMt.out]; rfl
        clear hK hm
        go_wp2_with (go_at_call 53; refine (CK.out _ Hq0.out).mono ?_; rintro e w2 ⟨Bk, kk, Kd, rfl, _, hKd, hE, q2⟩; have HKD := Lib.hid hKd; have HE := Lib.hid hE; have b0 := (q2.cell (p := ⟨wr.heap.size, 0, none⟩) (by simp)).trans bx0; have b1 := (q2.cell (p := ⟨wr.heap.size, 1, none⟩) (by simp)).trans bx1; have b2 := (q2.cell (p := ⟨wr.heap.size, 2, none⟩) (by simp)).trans bx2; have HQ2 := Lib.hid (Hq0.out.trans q2); have HSZ := Lib.hid (show wr.heap.size + 1 ≤ w2.heap.size by (have := q2.size; simpa using this)); have HO2 := Lib.hid (row_kept HO.out (((Q.refl wr).alloc _).trans q2) (Nat.le_refl _)); have HRV2 := Lib.hid (HRV.out.q (((Q.refl wr).alloc _).trans q2)); clear hKd hE q2)
        have hKl : Kd.length = np l[k] := by rw [HE.out.len]; exact HKL.out
        have hks := HKL.out
        obtain ⟨kd, rfl, hkb, hk0⟩ := nat_at HKD.out (k := 0) (by omega)
        obtain ⟨hx0, ht0⟩ := HE.out.each 0 (by omega) (by omega)
        have e0 : kd.add 0 = kd := by simp [Addr.add]
        rw [e0] at hk0
        obtain ⟨td, rfl, htb, htc⟩ := str_at HRV2.out (k := Kd[0]) (by rw [textsR_len]; exact hx0)
        rw [textsR_at l k _ hx0] at htc
        have l0 := HG.out.text Kd[0] (by omega)
        have hnl : (nm l[k]).length ≤ 1000 := by rw [show (nm l[k]).length = l[k].2.1.size by simp [nm]]; omega
        have HTX : Hid (textAt l k = nm l[k] ++ 126 :: figD m :: 40 :: (textAt l Kd[0] ++ [41])) := by unfold Hid; rw [HTX0.out, nth_at ks 0 (by omega), text_of ht0]
        clear ht0 e0 HTX0
        have hN : l[k].2.1 = bs (nm l[k]) := (bs_back _).symm
        rw [hN] at b1
        generalize hNM : nm l[k] = N at *
        generalize textAt l Kd[0] = T at *
        generalize Kd[0] = x0 at *
        clear hks hKl
        have a1 : ∀ u : World, (Op.stringOp .add (bs N) (⟨#[126]⟩ : ByteArray)).run Tryz.prog u = .ok (.string (bs (N ++ [126]))) u := fun u => add_bs N [126] u (by simp; omega)
        have a2 : ∀ u : World, (Op.stringOp .add (bs (N ++ [126])) (⟨#[figD m]⟩ : ByteArray)).run Tryz.prog u = .ok (.string (bs (N ++ [126, figD m]))) u := fun u => by have h := add_bs (N ++ [126]) [figD m] u (by simp; omega); rw [List.append_assoc] at h; exact h
        have a3 : ∀ u : World, (Op.stringOp .add (bs (N ++ [126, figD m])) (⟨#[40]⟩ : ByteArray)).run Tryz.prog u = .ok (.string (bs (N ++ [126, figD m, 40]))) u := fun u => by have h := add_bs (N ++ [126, figD m]) [40] u (by simp; omega); rw [List.append_assoc] at h; exact h
        have a4 : ∀ u : World, (Op.stringOp .add (bs (N ++ [126, figD m, 40])) (bs T)).run Tryz.prog u = .ok (.string (bs (N ++ 126 :: figD m :: 40 :: T))) u := fun u => by have h := add_bs (N ++ [126, figD m, 40]) T u (by simp; omega); rw [List.append_assoc] at h; exact h
        have a5 : ∀ u : World, (Op.stringOp .add (bs (N ++ 126 :: figD m :: 40 :: T)) (⟨#[41]⟩ : ByteArray)).run Tryz.prog u = .ok (.string (bs (N ++ 126 :: figD m :: 40 :: (T ++ [41])))) u := fun u => by have h := add_bs (N ++ 126 :: figD m :: 40 :: T) [41] u (by simp; omega); rw [List.append_assoc] at h; exact h
        have i0' : 0 < np l[k] := by omega
        have i0i : (0 : Int) < (np l[k] : Int) := by omega
        have CF := Lib.hid (fun W : World => figure_any7 m hm8 W)
        have HBlt : Hid (wr.heap.size < w2.heap.size) := by have := HSZ.out; unfold Hid; omega
        generalize wr.heap.size = B at *
        clear h2
        go_region_held3 (fun w' => w'.cell? ⟨B, 2, none⟩ = some (.int .i64 (m : Int)) ∧ w'.cell? kd = some (.int .i64 (x0 : Int)) ∧ w'.cell? (td.add x0) = some (.string (bs T)))
          (first | go_keep | exact ⟨(p1.cell (p := ⟨B, 2, none⟩) HBlt.out).trans b2, (p1.cell (p := kd) hkb).trans hk0, (p1.cell (p := td.add x0) (by rw [add_block]; exact htb)).trans htc⟩)
          (first | (go_at_call 55; (with_reducible refine (CF.out _).mono ?_); rintro e w3 ⟨rfl, q3⟩; have p1 : Q w2 w3 := (Q.refl w2).drew.trans q3))
        have HO3 := Lib.hid (row_kept HO2.out p1 (Nat.le_refl _))
        have HQ3 := Lib.hid (HQ2.out.trans p1)
        clear CF
        go_wp2_with (at_builtin; refine wpList_append_src _ rfl (.tmp 111) (.tmp 113) _ rfl w1.heap.size 9 i0 _ 1 16 Tryz.underlying27 Hi.out Hz0.out Hz1.out Hz2.out rfl (by omega) (.slice (some td) k cv) k (cellsS (textsR l k)) rfl (row_kept HO3.out ((Q.refl w3).alloc _) (Nat.le_refl _)) (some ⟨w3.heap.size, 0, none⟩) 1 1 [.string (bs (N ++ 126 :: figD m :: 40 :: (T ++ [41])))] rfl rfl (src_alloc w3 [.string (bs (N ++ 126 :: figD m :: 40 :: (T ++ [41])))] _ _) (by simp [Value.oneCell']) (by unfold maxLen; omega) (by omega) ((HQ3.out.alloc _).size) ?_; intro v' w' own' gr' _; have Own := Lib.hid own'; have HQ' : Hid (Q w1 w') := Below.grown (HQ3.out.alloc _) gr' ((HQ3.out.alloc _).size) (fun i e => (HO3.out.lt i e).1); clear own' gr')
        go_roundw
        case rel => exact ⟨k + 1, v', by omega, by go_num, rfl, by rw [HN.out, cellsS_append, HTX.out]; exact Own, HQ'⟩
        case measure => simp [intOf]; omega
    · have dk : decide ((k : Int) < (l.length : Int)) = false := decide_eq_false (by omega)
      obtain rfl : k = l.length := by omega
      obtain ⟨Av, cv, rfl, hcv, hRv⟩ := own_read HO.out
      obtain ⟨L, hL⟩ : ∃ L, l.length = L + 1 := ⟨l.length - 1, by omega⟩
      obtain ⟨td, rfl, _, hc⟩ := str_at hRv (k := L) (by rw [textsR_len]; omega)
      rw [textsR_at l _ L (by omega)] at hc
      have eL : l.length - 1 = L := by omega
      have HLast : Hid (textAt l (l.length - 1) = textAt l L) := by unfold Hid; rw [eL]
      have e1 : (l.length : Int) - 1 = (L : Int) := by omega
      have e2 : (L : Int) < (l.length : Int) := by omega
      clear hL eL hRv
      generalize textAt l L = T at *
      go_wp2_with fail
      go_ret
      exact ⟨by rw [HLast.out]; rfl, HQ1.out.trans HQ.out⟩
end Go.Proofs.YtdmdcggmgipdbaaGreatDoor.Ex

namespace Go.Proofs.YtdmdcggmgipdbaaGreatDoor.Ex
open Go.RowKit Kit Rw
open Go.Proofs.YtdmdcggmgipdbaaGreatDoor.Sg (Sig findI Row refFind_any)
def atS (s : ByteArray) : List ByteArray → Nat → Int
  | [], _ => -1
  | a :: r, k => if Sg.eqS a s = true then (k : Int) else atS s r (k + 1)
theorem atS_at (s : ByteArray) (l : List ByteArray) (k : Nat) (h : k < l.length) : atS s (l.drop k) k = if Sg.eqS l[k] s = true then (k : Int) else atS s (l.drop (k + 1)) (k + 1) := by
  rw [List.drop_eq_getElem_cons h]; rfl
theorem atS_end (s : ByteArray) (l : List ByteArray) (k : Nat) (h : l.length ≤ k) : atS s (l.drop k) k = -1 := by
  rw [List.drop_eq_nil_of_le h]; rfl
theorem atS_neg (s : ByteArray) : ∀ (l : List ByteArray) (k : Nat), atS s l k < 0 ↔ s ∉ l
  | [], k => by simp [atS]
  | a :: r, k => by
    unfold atS
    by_cases h : a = s
    · rw [if_pos ((Sg.eqS_iff _ _).2 h)]
      subst h
      simp
    · rw [if_neg fun e => h ((Sg.eqS_iff _ _).1 e), atS_neg s r (k + 1)]
      simp only [List.mem_cons, not_or]
      exact ⟨fun e => ⟨fun x => h x.symm, e⟩, fun e => e.2⟩
set_option maxRecDepth 100000 in
set_option maxHeartbeats 1000000 in
theorem at_any (A : Option Addr) (n c : Nat) (l : List ByteArray) (s : ByteArray) (w : World) (hn : n = l.length) (hr : Rds w w.heap.size A (cellsS l)) (hl : l.length ≤ 1000000) :
    Calls Tryz.prog 29 #[.slice A n c, .string s] w fun e w' => e = .returned (.int .i64 (atS s l 0)) ∧ w = w' := by
  subst hn
  go_enter Tryz.func29, Tryz.ntmps29
  go_wp2_with fail
  go_loop [5] (fun i => ∃ k : Nat, k ≤ l.length ∧ i = .int .i64 k ∧ Hid (atS s l 0 = atS s (l.drop k) k)) (fun i => l.length - (intOf i).toNat)
  case atStart => exact ⟨0, Nat.zero_le _, rfl, Lib.hid (by simp)⟩
  case round =>
    obtain ⟨k, hk, rfl, HF⟩ := hrel
    by_cases hlt : k < l.length
    · obtain ⟨ad, rfl, hb, c0⟩ := str_at hr hlt
      have HS := Lib.hid (atS_at s l k hlt)
      clear hr
      cases he : Sg.eqS l[k] s
      · have HS' : Hid (atS s (l.drop k) k = atS s (l.drop (k + 1)) (k + 1)) := by have := HS.out; rw [he] at this; exact this
        have he' : (l[k].toList == s.toList) = false := he
        clear he
        go_wp2_with fail
        go_round
        case rel => exact ⟨k + 1, by omega, by go_num, Lib.hid (HF.out.trans HS'.out)⟩
        case measure => simp [intOf]; omega
      · have HS' : Hid (atS s (l.drop k) k = k) := by have := HS.out; rw [he] at this; exact this
        have he' : (l[k].toList == s.toList) = true := he
        clear he
        go_wp2_with fail
        go_ret
        exact ⟨by rw [HF.out, HS'.out]; rfl, rfl⟩
    · have HS := Lib.hid (atS_end s l k (by omega))
      go_wp2_with fail
      go_ret
      exact ⟨by rw [HF.out, HS.out]; rfl, rfl⟩

/-- the names of variables, each once -/
def varsF : List Tg → List ByteArray → List ByteArray
  | [], o => o
  | n :: r, o => varsF r (if n.1 = 2 ∧ atS n.2.1 o 0 < 0 then o ++ [n.2.1] else o)
theorem varsF_at (l : List Tg) (o : List ByteArray) (k : Nat) (h : k < l.length) : varsF (l.drop k) o = varsF (l.drop (k + 1)) (if l[k].1 = 2 ∧ atS l[k].2.1 o 0 < 0 then o ++ [l[k].2.1] else o) := by
  rw [List.drop_eq_getElem_cons h]; rfl
theorem varsF_end (l : List Tg) (o : List ByteArray) (k : Nat) (h : l.length ≤ k) : varsF (l.drop k) o = o := by
  rw [List.drop_of_length_le h]; rfl
theorem varsF_len : ∀ (l : List Tg) (o : List ByteArray), (varsF l o).length ≤ o.length + l.length
  | [], o => Nat.le_refl _
  | n :: r, o => by
    unfold varsF
    refine Nat.le_trans (varsF_len r _) ?_
    split <;> simp <;> omega
set_option maxRecDepth 100000 in
set_option maxHeartbeats 4000000 in
theorem refVars_any (A : Option Addr) (n c : Nat) (l : List Tg) (w : World) (hn : n = l.length) (hr : Rds w w.heap.size A (cellsG l)) (hl : l.length ≤ 1000) :
    Calls Tryz.prog 28 #[.slice A n c] w fun e w' => ∃ v, e = .returned v ∧ w'.ownsRow w.heap.size 9 1 v (varsF l []).length (cellsS (varsF l [])) ∧ Q w w' := by
  subst hn
  obtain ⟨i0, hi, hz0, hz1, hz2⟩ := info_parts strInfo
  have Hi := Lib.hid hi
  have Hz0 := Lib.hid hz0
  have Hz1 := Lib.hid hz1
  have Hz2 := Lib.hid hz2
  clear hi hz0 hz1 hz2
  have HR := Lib.hid hr
  clear hr
  go_enter Tryz.func28, Tryz.ntmps28
  go_wp2_with fail
  go_loopw [3, 4] (fun v i wr => ∃ (k : Nat) (o : List ByteArray), k ≤ l.length ∧ o.length ≤ k ∧ i = .int .i64 k ∧ Hid (varsF l [] = varsF (l.drop k) o) ∧ Hid (wr.ownsRow w.heap.size 9 1 v o.length (cellsS o)) ∧ Hid (Q w wr)) (fun _ i _ => l.length - (intOf i).toNat)
  case atStart => exact ⟨0, [], Nat.zero_le _, Nat.le_refl _, rfl, Lib.hid (by simp), Lib.hid (own_nil w _ _ _), Lib.hid (Q.refl w)⟩
  case round =>
    obtain ⟨k, o, hk, hok, rfl, HV, HO, HQ⟩ := hrel
    by_cases hlt : k < l.length
    · obtain ⟨ad, rfl, hb, c0, c1, c2⟩ := tok_at (HR.out.q HQ.out) hlt
      obtain ⟨A2, c2', hve, _, hro⟩ := own_read HO.out
      subst hve
      have HSt := Lib.hid (varsF_at l o k hlt)
      have CA := Lib.hid (at_any A2 o.length c2' o l[k].2.1 wr rfl hro (by omega))
      clear hro c2
      generalize l[k].1 = kd at *
      generalize l[k].2.1 = nm at *
      generalize hat : atS nm o 0 = at_ at *
      by_cases h2 : kd = 2
      · have e2 : (kd == 2) = true := beq_iff_eq.2 h2
        by_cases hn : at_ < 0
        · have d0 : decide (at_ < 0) = true := decide_eq_true hn
          have HS2 : Hid (varsF l [] = varsF (l.drop (k + 1)) (o ++ [nm])) := by
            have := HSt.out
            rw [if_pos ⟨h2, hn⟩] at this
            exact Lib.hid (HV.out.trans this)
          have qE := (Q.refl wr).alloc (Obj.cells #[.string nm] 9)
          have HQE := Lib.hid (HQ.out.trans qE)
          have HOE := Lib.hid (row_kept HO.out qE (Nat.le_refl _))
          have HSE : Hid (Src (wr.alloc (Obj.cells #[.string nm] 9)) (some ⟨wr.heap.size, 0, none⟩) [.string nm]) := src_alloc wr [.string nm] 9 (0, 0)
          clear h2 hn hat HSt qE
          go_wp2_with (first
            | (go_at_call 29; refine CA.out.mono ?_; rintro e w1 ⟨rfl, rfl⟩)
            | (at_builtin; refine wpList_append_src _ rfl (.tmp 29) (.tmp 35) _ rfl w.heap.size 9 i0 _ 1 16 Tryz.underlying27 Hi.out Hz0.out Hz1.out Hz2.out rfl (by omega) (.slice A2 o.length c2') o.length (cellsS o) rfl HOE.out (some ⟨wr.heap.size, 0, none⟩) 1 1 [.string nm] rfl rfl HSE.out (by simp [Value.oneCell']) (by unfold maxLen; omega) (by omega) HQE.out.size ?_; intro v' w' own' gr' _))
          have HO5 : Hid (w'.ownsRow w.heap.size 9 1 v' (o ++ [nm]).length (cellsS (o ++ [nm]))) := by
            unfold Hid
            rw [List.length_append, cellsS_append]
            exact own'
          have HQ5 : Hid (Q w w') := Below.grown HQE.out gr' HQE.out.size (fun i e => (HOE.out.lt i e).1)
          clear own' gr'
          go_roundw
          case rel => exact ⟨k + 1, o ++ [nm], by omega, by simp; omega, by go_num, HS2, HO5, HQ5⟩
          case measure => simp [intOf]; omega
        · have d0 : decide (at_ < 0) = false := decide_eq_false hn
          have HS2 : Hid (varsF l [] = varsF (l.drop (k + 1)) o) := by
            have := HSt.out
            rw [if_neg fun h => hn h.2] at this
            exact Lib.hid (HV.out.trans this)
          clear h2 hn hat HSt
          go_wp2_with (go_at_call 29; refine CA.out.mono ?_; rintro e w1 ⟨rfl, rfl⟩)
          go_roundw
          case rel => exact ⟨k + 1, o, by omega, by omega, by go_num, HS2, HO, HQ⟩
          case measure => simp [intOf]; omega
      · have e2 : (kd == 2) = false := beq_eq_false_iff_ne.2 h2
        have HS2 : Hid (varsF l [] = varsF (l.drop (k + 1)) o) := by
          have := HSt.out
          rw [if_neg fun h => h2 h.1] at this
          exact Lib.hid (HV.out.trans this)
        clear h2 hat HSt
        go_wp2_with (go_at_call 29; refine CA.out.mono ?_; rintro e w1 ⟨rfl, rfl⟩)
        go_roundw
        case rel => exact ⟨k + 1, o, by omega, by omega, by go_num, HS2, HO, HQ⟩
        case measure => simp [intOf]; omega
    · have HE : Hid (varsF l [] = o) := by
        have := HV.out
        rw [varsF_end l o k (by omega)] at this
        exact Lib.hid this
      go_wp2_with fail
      go_ret
      exact ⟨_, rfl, by rw [HE.out]; exact HO.out, HQ.out⟩
end Go.Proofs.YtdmdcggmgipdbaaGreatDoor.Ex
