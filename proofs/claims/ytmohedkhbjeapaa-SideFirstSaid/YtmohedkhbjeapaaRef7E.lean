/-
  Plain: the text of a tree; contracts of the document's side and figure.
-/
import Derived.Test.YtmohedkhbjeapaaRef7D
namespace Go.Proofs.Ytmohedkhbjeapaa.Ex
open Go.RowKit Kit Rw Nm

def nm (t : Tg) : List UInt8 := t.2.1.data.toList
/-- a part's text: in brackets, if it is of two parts, but of the same kind and the first one -/
def sideL (kind : Int) (first : Bool) (p : Int × List UInt8) : List UInt8 := if (p.1 = 4 ∨ p.1 = 5) ∧ (first = false ∨ p.1 ≠ kind) then 40 :: (p.2 ++ [41]) else p.2
/-- a figure's byte -/
def figD (m : Nat) : UInt8 := UInt8.ofNat (48 + m)
def conL (b : Bool) : List (Int × List UInt8) → List UInt8
  | [] => []
  | p :: r => (if b = true then 40 else 44) :: (p.2 ++ conL false r)
def nth (ps : List (Int × List UInt8)) (i : Nat) : Int × List UInt8 := ps[i]?.getD (0, [])
/-- a node's text, of its parts' -/
def txt (n : Tg) (ps : List (Int × List UInt8)) : List UInt8 :=
  if n.1 = 0 then [48] else if n.1 = 1 then [49] else if n.1 = 3 then nm n ++ conL true ps ++ (if ps = [] then [] else [41])
  else if n.1 = 4 then sideL 4 true (nth ps 0) ++ 124 :: sideL 4 false (nth ps 1) else if n.1 = 5 then sideL 5 true (nth ps 0) ++ 38 :: sideL 5 false (nth ps 1)
  else if n.1 = 6 then nm n ++ 126 :: figD n.2.2.toNat :: 40 :: ((nth ps 0).2 ++ [41]) else nm n
mutual
def Ex.text : Ex → List UInt8
  | .mk n ks => txt n (textsP ks)
def textsP : List Ex → List (Int × List UInt8)
  | [] => []
  | e :: r => (e.root.1, e.text) :: textsP r
end
theorem textsP_len (l : List Ex) : (textsP l).length = l.length := by
  induction l with
  | nil => rfl
  | cons e l ih => simp [textsP, ih]
theorem textsP_at (l : List Ex) (i : Nat) (h : i < l.length) : (textsP l)[i]'(by rw [textsP_len]; exact h) = (l[i].root.1, l[i].text) := by
  induction l generalizing i with
  | nil => simp at h
  | cons e l ih =>
    cases i with
    | zero => rfl
    | succ i => exact ih i (by simpa using h)
theorem conL_app (b : Bool) (ps : List (Int × List UInt8)) (p : Int × List UInt8) : conL b (ps ++ [p]) = conL b ps ++ ((if b = true ∧ ps = [] then 40 else 44) :: p.2) := by
  induction ps generalizing b with
  | nil => cases b <;> simp [conL]
  | cons q ps ih => simp [conL, ih]

/-- the text of the tree that ends at a node -/
def textAt (l : List Tg) (j : Nat) : List UInt8 := match treeAt l j with
  | some c => c.text
  | none => []
theorem text_of {l : List Tg} {j : Nat} {c : Ex} (h : treeAt l j = some c) : textAt l j = c.text := by unfold textAt; rw [h]
theorem root_of {l : List Tg} {st : List Ex} (hs : runS [] l = some st) {j : Nat} (hj : j < l.length) {c : Ex} (h : treeAt l j = some c) : c.root = l[j] := by
  obtain ⟨sk, hsk⟩ := run_take hs j
  obtain ⟨sn, hsn⟩ := run_take hs (j + 1)
  obtain ⟨_, e⟩ := run_next hj hsk hsn
  unfold treeAt at h
  rw [hsn, e] at h
  injection h with h
  rw [← h]; rfl
theorem tree_at {l : List Tg} {st : List Ex} (hs : runS [] l = some st) {j : Nat} (hj : j < l.length) {sk : List Ex} (hsk : runS [] (l.take j) = some sk) : treeAt l j = some (.mk l[j] (sk.take (np l[j])).reverse) ∧ np l[j] ≤ sk.length := by
  obtain ⟨sn, hsn⟩ := run_take hs (j + 1)
  obtain ⟨h1, e⟩ := run_next hj hsk hsn
  exact ⟨by unfold treeAt; rw [hsn, e]; rfl, h1⟩
def textsR (l : List Tg) (n : Nat) : List ByteArray := (List.range n).map fun j => bs (textAt l j)
theorem textsR_len (l : List Tg) (n : Nat) : (textsR l n).length = n := by simp [textsR]
theorem textsR_at (l : List Tg) (n j : Nat) (h : j < n) : (textsR l n)[j]'(by rw [textsR_len]; exact h) = bs (textAt l j) := by simp [textsR]
theorem textsR_next (l : List Tg) (n : Nat) : textsR l (n + 1) = textsR l n ++ [bs (textAt l n)] := by simp [textsR, List.range_succ]
def cellsS (l : List ByteArray) : List Value := l.map Value.string
theorem cellsS_len (l : List ByteArray) : (cellsS l).length = l.length := by simp [cellsS]
theorem cellsS_at {l : List ByteArray} {k : Nat} (h : k < l.length) : (cellsS l)[k]? = some (.string l[k]) := by simp [cellsS, h]
theorem cellsS_append (a b : List ByteArray) : cellsS (a ++ b) = cellsS a ++ cellsS b := by simp [cellsS]
theorem str_at {w : World} {B : Nat} {A : Option Addr} {l : List ByteArray} (h : Rds w B A (cellsS l)) {k : Nat} (hk : k < l.length) :
    ∃ ad, A = some ad ∧ ad.block < B ∧ w.cell? (ad.add k) = some (.string l[k]) := by
  obtain ⟨ad, e, hlt, hc⟩ := h (by rw [cellsS_len]; omega)
  exact ⟨ad, e, hlt, hc k _ (cellsS_at hk)⟩
theorem add_bs (a b : List UInt8) (u : World) (h : a.length + b.length ≤ 1000000) : (Op.stringOp .add (bs a) (bs b)).run Try.prog u = .ok (.string (bs (a ++ b))) u := by
  have e : bs a ++ bs b = bs (a ++ b) := by apply ByteArray.ext; simp [bs]
  rw [← e]
  exact run_string_add_sum (P := Try.prog) u _ _ (by rw [bs_size, bs_size]; omega)

set_option maxRecDepth 100000 in
set_option maxHeartbeats 1000000 in
theorem side_any (A S : Option Addr) (n c m d : Nat) (l : List Tg) (k : Nat) (a : Nat) (kind : Int) (first : Bool) (w : World) (hn : n = l.length) (hm : m = k) (hr : Rds w w.heap.size A (cellsG l)) (hS : Rds w w.heap.size S (cellsS (textsR l k)))
    (ha : a < l.length) (hak : a < k) (hl : (textAt l a).length ≤ 100000) :
    Calls Try.prog 46 #[.slice A n c, .slice S m d, .int .i64 (a : Int), .int .i64 kind, .bool first] w fun e w' => e = .returned (.string (bs (sideL kind first (l[a].1, textAt l a)))) ∧ w = w' := by
  subst hn hm
  obtain ⟨ad, rfl, hb, c0, c1, c2⟩ := tok_at hr ha
  obtain ⟨sd, rfl, hbs, y0⟩ := str_at hS (k := a) (by rw [textsR_len]; exact hak)
  rw [textsR_at l _ a hak] at y0
  have HD : Hid (sideL kind first (l[a].1, textAt l a) = if (l[a].1 = 4 ∨ l[a].1 = 5) ∧ (first = false ∨ l[a].1 ≠ kind) then 40 :: (textAt l a ++ [41]) else textAt l a) := rfl
  generalize l[a].1 = K at *
  generalize textAt l a = T at *
  have a1 : ∀ u : World, (Op.stringOp .add (⟨#[40]⟩ : ByteArray) (bs T)).run Try.prog u = .ok (.string (bs (40 :: T))) u := fun u => add_bs [40] T u (by simp; omega)
  have a2 : ∀ u : World, (Op.stringOp .add (bs (40 :: T)) (⟨#[41]⟩ : ByteArray)).run Try.prog u = .ok (.string (bs (40 :: (T ++ [41])))) u := fun u => add_bs (40 :: T) [41] u (by simp; omega)
  clear hr hS
  by_cases h4 : K = 4
  · have e4 : (K == 4) = true := beq_iff_eq.2 h4
    cases first
    · have HR : Hid (sideL kind false (K, T) = 40 :: (T ++ [41])) := by unfold Hid; rw [HD.out, if_pos ⟨.inl h4, .inl rfl⟩]
      clear h4 HD
      go_enter Try.func46, Try.ntmps46
      go_wp2_with fail
      go_ret
      exact ⟨by rw [HR.out]; rfl, by trivial⟩
    · by_cases hk : K = kind
      · have ek : (K != kind) = false := by simp [hk]
        have HR : Hid (sideL kind true (K, T) = T) := by unfold Hid; rw [HD.out, if_neg (by simp [hk])]
        clear h4 HD hk
        go_enter Try.func46, Try.ntmps46
        go_wp2_with fail
        go_ret
        exact ⟨by rw [HR.out]; rfl, by trivial⟩
      · have ek : (K != kind) = true := by simpa using hk
        have HR : Hid (sideL kind true (K, T) = 40 :: (T ++ [41])) := by unfold Hid; rw [HD.out, if_pos ⟨.inl h4, .inr hk⟩]
        clear h4 HD hk
        go_enter Try.func46, Try.ntmps46
        go_wp2_with fail
        go_ret
        exact ⟨by rw [HR.out]; rfl, by trivial⟩
  · have e4 : (K == 4) = false := beq_eq_false_iff_ne.2 h4
    by_cases h5 : K = 5
    · have e5 : (K == 5) = true := beq_iff_eq.2 h5
      cases first
      · have HR : Hid (sideL kind false (K, T) = 40 :: (T ++ [41])) := by unfold Hid; rw [HD.out, if_pos ⟨.inr h5, .inl rfl⟩]
        clear h4 h5 HD
        go_enter Try.func46, Try.ntmps46
        go_wp2_with fail
        go_ret
        exact ⟨by rw [HR.out]; rfl, by trivial⟩
      · by_cases hk : K = kind
        · have ek : (K != kind) = false := by simp [hk]
          have HR : Hid (sideL kind true (K, T) = T) := by unfold Hid; rw [HD.out, if_neg (by simp [hk])]
          clear h4 h5 HD hk
          go_enter Try.func46, Try.ntmps46
          go_wp2_with fail
          go_ret
          exact ⟨by rw [HR.out]; rfl, by trivial⟩
        · have ek : (K != kind) = true := by simpa using hk
          have HR : Hid (sideL kind true (K, T) = 40 :: (T ++ [41])) := by unfold Hid; rw [HD.out, if_pos ⟨.inr h5, .inr hk⟩]
          clear h4 h5 HD hk
          go_enter Try.func46, Try.ntmps46
          go_wp2_with fail
          go_ret
          exact ⟨by rw [HR.out]; rfl, by trivial⟩
    · have e5 : (K == 5) = false := beq_eq_false_iff_ne.2 h5
      have HR : Hid (sideL kind first (K, T) = T) := by unfold Hid; rw [HD.out, if_neg (by rintro ⟨h | h, _⟩; exact h4 h; exact h5 h)]
      clear h4 h5 HD
      go_enter Try.func46, Try.ntmps46
      go_wp2_with fail
      go_ret
      exact ⟨by rw [HR.out]; rfl, by trivial⟩

theorem convE (u : World) (m : Nat) (hm : m ≤ 8) : (convert 31 9 (.slice (some ⟨u.heap.size, 0, none⟩) 1 1)).run Try.prog (u.alloc (.cells #[.int .u8 (48 + (m : Int))] 5)) = .ok (.string ⟨#[figD m]⟩) (u.alloc (.cells #[.int .u8 (48 + (m : Int))] 5)) :=
  run_convert_bytes_back (P := Try.prog) _ 31 9 5 ⟨u.heap.size, 0, none⟩ 1 [figD m] Try.underlying31 Try.underlying5 Try.underlying9 (by
    intro j hj
    simp at hj
    subst hj
    rw [add_zero_head, cell_of_row _ _ _ _ _ _ (heap_alloc_new u _)]
    have e : ((figD m).toNat : Int) = 48 + (m : Int) := by unfold figD; rw [UInt8.toNat_ofNat']; omega
    rw [← e]
    rfl)
theorem figure_any7 (m : Nat) (hm : m ≤ 8) (w : World) :
    Calls Try.prog 47 #[.int .i64 (m : Int)] w fun e w' => e = .returned (.string ⟨#[figD m]⟩) ∧ Q w w' := by
  have hc := convE w m hm
  go_enter Try.func47, Try.ntmps47
  go_wp2_with fail
  go_ret
  exact ⟨rfl, (Q.refl _).alloc _⟩
end Go.Proofs.Ytmohedkhbjeapaa.Ex
