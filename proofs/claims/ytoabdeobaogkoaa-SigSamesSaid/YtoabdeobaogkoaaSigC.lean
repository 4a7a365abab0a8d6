/-
  Rows of constructors in memory; contracts of Find, mayAdd, Right.
-/
import Derived.Test.YtoabdeobaogkoaaSigB
namespace Go.Proofs.Ytoabdeobaogkoaa.Sg
open Go.RowKit Kit

abbrev Sig := ByteArray × ByteArray
/-- a slice value that reads as a row of constructors, below block B -/
def Row (w : World) (B : Nat) (A : Option Addr) (l : List Sig) : Prop :=
  0 < l.length → ∃ ad, A = some ad ∧ ad.block < B ∧ ∀ i s, l[i]? = some s → w.cell? (ad.add (i * 2)) = some (.string s.1) ∧ w.cell? ⟨(ad.add (i * 2)).block, (ad.add (i * 2)).off + 1, none⟩ = some (.string s.2)

theorem add_block (a : Addr) (n : Nat) : (a.add n).block = a.block := by unfold Addr.add; split <;> rfl
theorem add_succ (a : Addr) (n : Nat) : a.add (n + 1) = ⟨(a.add n).block, (a.add n).off + 1, none⟩ := by
  unfold Addr.add
  by_cases h : n = 0 <;> simp [h, Nat.add_assoc]

theorem Row.keep {w w' : World} {B : Nat} {A : Option Addr} {l : List Sig} (h : Row w B A l) (hb : Below B w w') : Row w' B A l := fun h0 => by
  obtain ⟨ad, e, hlt, hc⟩ := h h0
  refine ⟨ad, e, hlt, fun i s hs => ?_⟩
  obtain ⟨c0, c1⟩ := hc i s hs
  exact ⟨(hb.cell (by rw [add_block]; exact hlt)).trans c0, (hb.cell (p := ⟨(ad.add (i * 2)).block, (ad.add (i * 2)).off + 1, none⟩) (by show (ad.add (i * 2)).block < B; rw [add_block]; exact hlt)).trans c1⟩
theorem Row.q {w w' : World} {B : Nat} {A : Option Addr} {l : List Sig} (h : Row w B A l) (hB : B ≤ w.heap.size) (hb : Q w w') : Row w' B A l := h.keep (hb.mono hB)
theorem Row.more {w : World} {B B' : Nat} {A : Option Addr} {l : List Sig} (h : Row w B A l) (hB : B ≤ B') : Row w B' A l := fun h0 => by
  obtain ⟨ad, e, hlt, hc⟩ := h h0
  exact ⟨ad, e, by omega, hc⟩
/-- the cells of one constructor -/
theorem Row.at_ {w : World} {B : Nat} {A : Option Addr} {l : List Sig} (h : Row w B A l) {k : Nat} (hk : k < l.length) :
    ∃ ad, A = some ad ∧ ad.block < B ∧ w.cell? (ad.add (k * 2)) = some (.string l[k].1) ∧ w.cell? ⟨(ad.add (k * 2)).block, (ad.add (k * 2)).off + 1, none⟩ = some (.string l[k].2) := by
  obtain ⟨ad, e, hlt, hc⟩ := h (by omega)
  obtain ⟨c0, c1⟩ := hc k l[k] (List.getElem?_eq_getElem hk)
  exact ⟨ad, e, hlt, c0, c1⟩

/-- two texts are the same -/
def eqS (a b : ByteArray) : Bool := a.toList == b.toList
theorem eqS_iff (a b : ByteArray) : eqS a b = true ↔ a = b := by
  unfold eqS
  rw [beq_iff_eq, ByteArray.toList_eq, ByteArray.toList_eq]
  exact ⟨fun h => ByteArray.ext (Array.toList_inj.mp h), fun h => by rw [h]⟩
theorem eqS_no {a b : ByteArray} (h : eqS a b = false) : a ≠ b := fun e => by rw [(eqS_iff a b).2 e] at h; cases h

/-- where the first constructor of a name stands, from k on; -1 -/
def findI (t : ByteArray) : List Sig → Nat → Int
  | [], _ => -1
  | s :: l, k => if eqS s.1 t then k else findI t l (k + 1)
theorem findI_at (t : ByteArray) (l : List Sig) (k : Nat) (h : k < l.length) : findI t (l.drop k) k = if eqS l[k].1 t then (k : Int) else findI t (l.drop (k + 1)) (k + 1) := by
  rw [List.drop_eq_getElem_cons h]; rfl
theorem findI_end (t : ByteArray) (l : List Sig) (k : Nat) (h : l.length ≤ k) : findI t (l.drop k) k = -1 := by
  rw [List.drop_eq_nil_of_le h]; rfl

set_option maxHeartbeats 400000 in
theorem find_any (A : Option Addr) (n c : Nat) (l : List Sig) (t : ByteArray) (w : World) (hn : n = l.length) (hr : Row w w.heap.size A l) (hl : l.length ≤ maxLen) :
    Calls Try.prog 14 #[.slice A n c, .string t] w fun e w' => e = .returned (.int .i64 (findI t l 0)) ∧ Q w w' := by
  subst hn
  unfold maxLen at hl
  go_enter Try.func14, Try.ntmps14
  go_wp2_with fail
  go_loopw [4, 5, 6, 9] (fun _ _ _ i wr => ∃ k : Nat, k ≤ l.length ∧ i = .int .i64 k ∧ Hid (findI t l 0 = findI t (l.drop k) k) ∧ Q w wr) (fun _ _ _ i _ => l.length - (intOf i).toNat)
  case atStart => exact ⟨0, Nat.zero_le _, rfl, Lib.hid (by simp), Q.refl _⟩
  case round =>
    obtain ⟨k, hk, rfl, HF, qr⟩ := hrel
    by_cases hlt : k < l.length
    · obtain ⟨ad, rfl, hb, c0, c1⟩ := (hr.q (Nat.le_refl _) qr).at_ hlt
      have HS := Lib.hid (findI_at t l k hlt)
      clear hr
      cases he : eqS l[k].1 t
      · have HS' : Hid (findI t (l.drop k) k = findI t (l.drop (k + 1)) (k + 1)) := by have := HS.out; rw [he] at this; exact this
        have he' : (l[k].1.toList == t.toList) = false := he
        clear he
        go_wp2_with fail
        go_roundw
        case rel => exact ⟨k + 1, by omega, by go_num, Lib.hid (HF.out.trans HS'.out), qr.alloc _⟩
        case measure => simp [intOf]; omega
      · have HS' : Hid (findI t (l.drop k) k = k) := by have := HS.out; rw [he] at this; exact this
        have he' : (l[k].1.toList == t.toList) = true := he
        clear he
        go_wp2_with fail
        go_ret
        exact ⟨by rw [HF.out, HS'.out]; rfl, qr.alloc _⟩
    · have HS := Lib.hid (findI_end t l k (by omega))
      go_wp2_with fail
      go_ret
      exact ⟨by rw [HF.out, HS.out]; rfl, qr⟩

/-! ### mayAdd -/
def conB (t : ByteArray) : Bool := nameB 97 122 t.data.toList
def partsB (t : ByteArray) : Bool := argsB t.data.toList
def mayI (l : List Sig) (nm ar : ByteArray) : Int :=
  if conB nm then if partsB ar then if decide (0 ≤ findI nm l 0) then 4 else if decide (64 ≤ l.length) then 7 else 0 else 1 else 3

set_option maxHeartbeats 400000 in
theorem mayAdd_any (A : Option Addr) (n c : Nat) (l : List Sig) (nm ar : ByteArray) (w : World) (hn : n = l.length) (hr : Row w w.heap.size A l) (hl : l.length ≤ maxLen) :
    Calls Try.prog 23 #[.slice A n c, .agg #[.string nm, .string ar]] w fun e w' => e = .returned (.int .i64 (mayI l nm ar)) ∧ Q w w' := by
  subst hn
  cases h1 : nameB 97 122 nm.data.toList
  · have HR : Hid (mayI l nm ar = 3) := by unfold Hid mayI conB; rw [h1]; rfl
    go_enter Try.func23, Try.ntmps23
    go_wp2_with fail
    refine (isCon_any _ _).mono ?_
    rintro e w1 ⟨rfl, q1⟩
    go_wp2_with fail
    go_ret
    exact ⟨by rw [HR.out]; rfl, ((Q.refl _).alloc _).trans q1⟩
  · cases h2 : argsB ar.data.toList
    · have HR : Hid (mayI l nm ar = 1) := by unfold Hid mayI conB partsB; rw [h1, h2]; rfl
      go_enter Try.func23, Try.ntmps23
      go_wp2_with fail
      refine (isCon_any _ _).mono ?_
      rintro e w1 ⟨rfl, q1⟩
      have k0 : w1.cell? ⟨w.heap.size, 0, none⟩ = some (.string nm) := by rw [q1.cell (by simp)]; simp
      have k1 : w1.cell? ⟨w.heap.size, 1, none⟩ = some (.string ar) := by rw [q1.cell (by simp)]; simp
      go_wp2_with fail
      refine (areArgs_any _ _).mono ?_
      rintro e w2 ⟨rfl, rfl⟩
      go_wp2_with fail
      go_ret
      exact ⟨by rw [HR.out]; rfl, ((Q.refl _).alloc _).trans q1⟩
    · by_cases h3 : 0 ≤ findI nm l 0
      · have HR : Hid (mayI l nm ar = 4) := by unfold Hid mayI conB partsB; rw [h1, h2, decide_eq_true h3]; rfl
        go_enter Try.func23, Try.ntmps23
        go_wp2_with fail
        refine (isCon_any _ _).mono ?_
        rintro e w1 ⟨rfl, q1⟩
        have k0 : w1.cell? ⟨w.heap.size, 0, none⟩ = some (.string nm) := by rw [q1.cell (by simp)]; simp
        have k1 : w1.cell? ⟨w.heap.size, 1, none⟩ = some (.string ar) := by rw [q1.cell (by simp)]; simp
        have q1' := ((Q.refl _).alloc _).trans q1
        go_wp2_with fail
        refine (areArgs_any _ _).mono ?_
        rintro e w2 ⟨rfl, rfl⟩
        go_wp2_with fail
        refine (find_any _ _ _ l _ _ rfl ((hr.q (Nat.le_refl _) q1').more q1'.size) hl).mono ?_
        rintro e w3 ⟨rfl, q3⟩
        go_wp2_with fail
        go_ret
        exact ⟨by rw [HR.out]; rfl, q1'.trans q3⟩
      · by_cases h4 : 64 ≤ l.length
        · have HR : Hid (mayI l nm ar = 7) := by unfold Hid mayI conB partsB; rw [h1, h2, decide_eq_false h3, decide_eq_true h4]; rfl
          have h4' : 64 ≤ (l.length : Int) := by omega
          go_enter Try.func23, Try.ntmps23
          go_wp2_with fail
          refine (isCon_any _ _).mono ?_
          rintro e w1 ⟨rfl, q1⟩
          have k0 : w1.cell? ⟨w.heap.size, 0, none⟩ = some (.string nm) := by rw [q1.cell (by simp)]; simp
          have k1 : w1.cell? ⟨w.heap.size, 1, none⟩ = some (.string ar) := by rw [q1.cell (by simp)]; simp
          have q1' := ((Q.refl _).alloc _).trans q1
          go_wp2_with fail
          refine (areArgs_any _ _).mono ?_
          rintro e w2 ⟨rfl, rfl⟩
          go_wp2_with fail
          refine (find_any _ _ _ l _ _ rfl ((hr.q (Nat.le_refl _) q1').more q1'.size) hl).mono ?_
          rintro e w3 ⟨rfl, q3⟩
          go_wp2_with fail
          go_ret
          exact ⟨by rw [HR.out]; rfl, q1'.trans q3⟩
        · have HR : Hid (mayI l nm ar = 0) := by unfold Hid mayI conB partsB; rw [h1, h2, decide_eq_false h3, decide_eq_false h4]; rfl
          have h4' : (l.length : Int) < 64 := by omega
          go_enter Try.func23, Try.ntmps23
          go_wp2_with fail
          refine (isCon_any _ _).mono ?_
          rintro e w1 ⟨rfl, q1⟩
          have k0 : w1.cell? ⟨w.heap.size, 0, none⟩ = some (.string nm) := by rw [q1.cell (by simp)]; simp
          have k1 : w1.cell? ⟨w.heap.size, 1, none⟩ = some (.string ar) := by rw [q1.cell (by simp)]; simp
          have q1' := ((Q.refl _).alloc _).trans q1
          go_wp2_with fail
          refine (areArgs_any _ _).mono ?_
          rintro e w2 ⟨rfl, rfl⟩
          go_wp2_with fail
          refine (find_any _ _ _ l _ _ rfl ((hr.q (Nat.le_refl _) q1').more q1'.size) hl).mono ?_
          rintro e w3 ⟨rfl, q3⟩
          go_wp2_with fail
          go_ret
          exact ⟨by rw [HR.out]; rfl, q1'.trans q3⟩
end Go.Proofs.Ytoabdeobaogkoaa.Sg
