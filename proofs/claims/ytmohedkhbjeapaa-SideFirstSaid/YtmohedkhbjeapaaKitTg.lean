/-
  Rows of a number, a text and a number (tokens, nodes) in memory.
-/
import Derived.Test.YtmohedkhbjeapaaKitRds
namespace Go.Proofs.Ytmohedkhbjeapaa.Rw
open Go.RowKit Kit

def bs (l : List UInt8) : ByteArray := ⟨l.toArray⟩
theorem bs_list (l : List UInt8) : (bs l).data.toList = l := by simp [bs]
theorem bs_back (s : ByteArray) : bs s.data.toList = s := by cases s; simp [bs]
theorem bs_size (l : List UInt8) : (bs l).size = l.length := by simp [bs, ByteArray.size]
/-- any token as memory has it: its kind, its text, where it begins -/
abbrev Tg := Int × ByteArray × Int
def cellsG : List Tg → List Value
  | [] => []
  | t :: l => .int .i64 t.1 :: .string t.2.1 :: .int .i64 t.2.2 :: cellsG l
theorem cellsG_len (l : List Tg) : (cellsG l).length = l.length * 3 := by
  induction l with
  | nil => rfl
  | cons s l ih => simp [cellsG, ih]; omega
theorem cellsG_append (a b : List Tg) : cellsG (a ++ b) = cellsG a ++ cellsG b := by
  induction a with
  | nil => rfl
  | cons s l ih => simp [cellsG, ih]
theorem cellsG_one (l : List Tg) : ∀ v ∈ cellsG l, v.oneCell' = true := by
  induction l with
  | nil => simp [cellsG]
  | cons s l ih => simp only [cellsG, List.mem_cons]; rintro v (rfl | rfl | rfl | h); exact rfl; exact rfl; exact rfl; exact ih v h
theorem cellsG_0 (l : List Tg) (i : Nat) : (cellsG l)[i * 3]? = l[i]?.map fun s => Value.int .i64 s.1 := by
  induction l generalizing i with
  | nil => simp [cellsG]
  | cons s l ih =>
    cases i with
    | zero => rfl
    | succ i => rw [show (i + 1) * 3 = i * 3 + 1 + 1 + 1 by omega]; simpa [cellsG] using ih i
theorem cellsG_1 (l : List Tg) (i : Nat) : (cellsG l)[i * 3 + 1]? = l[i]?.map fun s => Value.string s.2.1 := by
  induction l generalizing i with
  | nil => simp [cellsG]
  | cons s l ih =>
    cases i with
    | zero => rfl
    | succ i => rw [show (i + 1) * 3 + 1 = i * 3 + 1 + 1 + 1 + 1 by omega]; simpa [cellsG] using ih i
theorem cellsG_2 (l : List Tg) (i : Nat) : (cellsG l)[i * 3 + 2]? = l[i]?.map fun s => Value.int .i64 s.2.2 := by
  induction l generalizing i with
  | nil => simp [cellsG]
  | cons s l ih =>
    cases i with
    | zero => rfl
    | succ i => rw [show (i + 1) * 3 + 2 = i * 3 + 2 + 1 + 1 + 1 by omega]; simpa [cellsG] using ih i
theorem add_two (a : Addr) (n : Nat) : a.add (n + 2) = ⟨(a.add n).block, (a.add n).off + 2, none⟩ := by
  unfold Addr.add
  by_cases h : n = 0 <;> simp [h, Nat.add_assoc]
theorem tok_at {w : World} {B : Nat} {A : Option Addr} {l : List Tg} (h : Rds w B A (cellsG l)) {k : Nat} (hk : k < l.length) :
    ∃ ad, A = some ad ∧ ad.block < B ∧ w.cell? (ad.add (k * 3)) = some (.int .i64 l[k].1) ∧ w.cell? ⟨(ad.add (k * 3)).block, (ad.add (k * 3)).off + 1, none⟩ = some (.string l[k].2.1) ∧
      w.cell? ⟨(ad.add (k * 3)).block, (ad.add (k * 3)).off + 2, none⟩ = some (.int .i64 l[k].2.2) := by
  obtain ⟨ad, e, hlt, hc⟩ := h (by rw [cellsG_len]; omega)
  refine ⟨ad, e, hlt, hc _ _ (by rw [cellsG_0, List.getElem?_eq_getElem hk]; rfl), ?_, ?_⟩
  · rw [← add_succ]
    exact hc _ _ (by rw [cellsG_1, List.getElem?_eq_getElem hk]; rfl)
  · rw [← add_two]
    exact hc _ _ (by rw [cellsG_2, List.getElem?_eq_getElem hk]; rfl)

/-- two texts are the same -/
def eqS (a b : ByteArray) : Bool := a.toList == b.toList
theorem eqS_iff (a b : ByteArray) : eqS a b = true ↔ a = b := by
  unfold eqS
  rw [beq_iff_eq, ByteArray.toList_eq, ByteArray.toList_eq]
  exact ⟨fun h => ByteArray.ext (Array.toList_inj.mp h), fun h => by rw [h]⟩
def tgEq (a b : Tg) : Bool := (a.1 == b.1) && (eqS a.2.1 b.2.1 && (a.2.2 == b.2.2))
theorem tgEq_iff (a b : Tg) : tgEq a b = true ↔ a = b := by
  unfold tgEq
  rw [Bool.and_eq_true, Bool.and_eq_true, eqS_iff, beq_iff_eq, beq_iff_eq, Prod.ext_iff, Prod.ext_iff]
def sameG : List Tg → List Tg → Bool
  | a :: l, b :: m => tgEq a b && sameG l m
  | _, _ => true
def sameB (l m : List Tg) : Bool := decide (l.length = m.length) && sameG l m
theorem sameG_at (l m : List Tg) (k : Nat) (h : k < l.length) (h' : k < m.length) : sameG (l.drop k) (m.drop k) = (tgEq l[k] m[k] && sameG (l.drop (k + 1)) (m.drop (k + 1))) := by
  rw [List.drop_eq_getElem_cons h, List.drop_eq_getElem_cons h']; rfl
theorem sameG_end (l m : List Tg) (k : Nat) (h : l.length ≤ k) : sameG (l.drop k) (m.drop k) = true := by
  rw [List.drop_eq_nil_of_le h]; rfl
theorem sameG_iff : ∀ (l m : List Tg), l.length = m.length → (sameG l m = true ↔ l = m)
  | [], [], _ => by simp [sameG]
  | a :: l, b :: m, h => by
    rw [sameG, Bool.and_eq_true, tgEq_iff, sameG_iff l m (by simpa using h)]
    simp
theorem sameB_iff (l m : List Tg) : sameB l m = true ↔ l = m := by
  unfold sameB
  rw [Bool.and_eq_true, decide_eq_true_eq]
  constructor
  · rintro ⟨h, g⟩; exact (sameG_iff l m h).1 g
  · rintro rfl; exact ⟨rfl, (sameG_iff l l rfl).2 rfl⟩

end Go.Proofs.Ytmohedkhbjeapaa.Rw
