/-
  Rows of numbers in memory; contracts of the leaves: Ints and slices.Equal (are two rows the same), the two hashes, the two sizes.
-/
import Derived.Test.YtgnbempkobgeiaaKit
import Derived.Outline
namespace Go.Proofs.Ytgnbempkobgeiaa.Hs
open Go.RowKit Kit

/-- a slice value that reads as these numbers, below block B -/
def Ints (w : World) (B : Nat) (A : Option Addr) (xs : List Int) : Prop :=
  0 < xs.length → ∃ ad, A = some ad ∧ ad.block < B ∧ ∀ i x, xs[i]? = some x → w.cell? (ad.add i) = some (.int .i64 x)
theorem add_block (a : Addr) (n : Nat) : (a.add n).block = a.block := by unfold Addr.add; split <;> rfl
theorem Ints.keep {w w' : World} {B : Nat} {A : Option Addr} {l : List Int} (h : Ints w B A l) (hb : Below B w w') : Ints w' B A l := fun h0 => by
  obtain ⟨ad, e, hlt, hc⟩ := h h0
  exact ⟨ad, e, hlt, fun i s hs => (hb.cell (by rw [add_block]; exact hlt)).trans (hc i s hs)⟩
theorem Ints.q {w w' : World} {B : Nat} {A : Option Addr} {l : List Int} (h : Ints w B A l) (hB : B ≤ w.heap.size) (hb : Q w w') : Ints w' B A l := h.keep (hb.mono hB)
theorem Ints.more {w : World} {B B' : Nat} {A : Option Addr} {l : List Int} (h : Ints w B A l) (hB : B ≤ B') : Ints w B' A l := fun h0 => by
  obtain ⟨ad, e, hlt, hc⟩ := h h0
  exact ⟨ad, e, by omega, hc⟩
theorem Ints.at_ {w : World} {B : Nat} {A : Option Addr} {l : List Int} (h : Ints w B A l) {k : Nat} (hk : k < l.length) :
    ∃ ad, A = some ad ∧ ad.block < B ∧ w.cell? (ad.add k) = some (.int .i64 l[k]) := by
  obtain ⟨ad, e, hlt, hc⟩ := h (by omega)
  exact ⟨ad, e, hlt, hc k l[k] (List.getElem?_eq_getElem hk)⟩

/-! ### the hash -/
def mixB (h b : Int) : Int := bits .xor .u32 h b * 16777619 % 4294967296
def mixN (h m : Int) : Nat → Int
  | 0 => h
  | k + 1 => mixN (mixB h (m % 256)) (m / 256) k
def hashF (h : Int) : List Int → Int
  | [] => h
  | x :: l => hashF (mixN h (IntKind.u64.wrap x) 8) l
def hashI (l : List Int) : Int := hashF 2166136261 l
theorem hashF_at (h : Int) (l : List Int) (k : Nat) (hk : k < l.length) : hashF h (l.drop k) = hashF (mixN h (IntKind.u64.wrap l[k]) 8) (l.drop (k + 1)) := by
  rw [List.drop_eq_getElem_cons hk]; rfl
theorem hashF_end (h : Int) (l : List Int) (k : Nat) (hk : l.length ≤ k) : hashF h (l.drop k) = h := by
  rw [List.drop_eq_nil_of_le hk]; rfl

theorem mix_step (h m : Int) (j : Nat) (hj : j < 8) : mixN h (m / 256 ^ j) (8 - j) = mixN (bits .xor .u32 h (m / 2 ^ (8 * j) % 256) * 16777619 % 4294967296) (m / 256 ^ (j + 1)) (8 - (j + 1)) := by
  have e : 8 - j = (8 - (j + 1)) + 1 := by omega
  rw [e, mixN, mixB, Int.ediv_ediv_of_nonneg (by exact Int.le_of_lt (Int.pow_pos (by omega))), ← Int.pow_succ, Int.pow_mul]
  rfl

set_option maxHeartbeats 400000 in
theorem hash_any (A : Option Addr) (n c : Nat) (l : List Int) (w : World) (hn : n = l.length) (hr : Ints w w.heap.size A l) (hl : l.length ≤ maxLen) :
    Calls Try.prog 55 #[.slice A n c] w fun e w' => e = .returned (.int .u32 (hashI l)) ∧ w = w' := by
  subst hn
  unfold maxLen at hl
  go_enter Try.func55, Try.ntmps55
  go_wp2_with fail
  go_loopw [3, 5, 9] (fun h _ i wr => ∃ (k : Nat) (g : Int), k ≤ l.length ∧ i = .int .i64 k ∧ h = .int .u32 g ∧ Hid (hashI l = hashF g (l.drop k)) ∧ w = wr) (fun _ _ i _ => l.length - (intOf i).toNat)
  case atStart => exact ⟨0, 2166136261, Nat.zero_le _, rfl, rfl, Lib.hid (by simp [hashI]), rfl⟩
  case round =>
    obtain ⟨k, g, hk, rfl, rfl, HF, rfl⟩ := hrel
    by_cases hlt : k < l.length
    · obtain ⟨ad, rfl, hb, c0⟩ := hr.at_ hlt
      go_wp2_with fail
      go_loopw [3, 13] (fun h i wr => ∃ (j : Nat) (g' : Int), j ≤ 8 ∧ i = .int .i64 j ∧ h = .int .u32 g' ∧ Hid (mixN g (IntKind.u64.wrap l[k]) 8 = mixN g' (IntKind.u64.wrap l[k] / 256 ^ j) (8 - j)) ∧ w = wr) (fun _ i _ => 8 - (intOf i).toNat)
      case atStart => exact ⟨0, g, by omega, rfl, rfl, Lib.hid (by simp), rfl⟩
      case round =>
        obtain ⟨j, g', hj, rfl, rfl, HM, rfl⟩ := hrel
        by_cases hjl : j < 8
        · have HS := Lib.hid (mix_step g' (IntKind.u64.wrap l[k]) j hjl)
          go_wp2_with fail
          go_roundw
          case rel => exact ⟨j + 1, _, by omega, by go_num, rfl, Lib.hid (HM.out.trans HS.out), trivial⟩
          case measure => simp [intOf]; omega
        · obtain rfl : j = 8 := by omega
          have HS : Hid (mixN g (IntKind.u64.wrap l[k]) 8 = g') := HM.out
          have HT := Lib.hid (hashF_at g l k hlt)
          go_wp2_with fail
          go_roundw
          case rel => exact ⟨k + 1, _, by omega, by go_num, rfl, Lib.hid (by rw [HF.out, HT.out, HS.out]), trivial⟩
          case measure => simp [intOf]; omega
    · have HT := Lib.hid (hashF_end g l k (by omega))
      go_wp2_with fail
      go_ret
      exact ⟨by rw [HF.out, HT.out]; rfl, rfl⟩

theorem u64_wrap (x : Int) : 0 ≤ IntKind.u64.wrap x ∧ IntKind.u64.wrap x < 18446744073709551616 := by
  have : IntKind.u64.wrap x = x % 18446744073709551616 := rfl
  rw [this]; omega
theorem mix_step0 (h m : Int) (j : Nat) (hj : j < 8) : mixN h m (8 - j) = mixN (bits .xor .u32 h (m % 256) * 16777619 % 4294967296) (m / 256) (8 - (j + 1)) := by
  have e : 8 - j = (8 - (j + 1)) + 1 := by omega
  rw [e, mixN, mixB]

set_option maxHeartbeats 400000 in
theorem refHash_any (A : Option Addr) (n c : Nat) (l : List Int) (w : World) (hn : n = l.length) (hr : Ints w w.heap.size A l) (hl : l.length ≤ maxLen) :
    Calls Try.prog 69 #[.slice A n c] w fun e w' => e = .returned (.int .u32 (hashI l)) ∧ w = w' := by
  subst hn
  unfold maxLen at hl
  go_enter Try.func69, Try.ntmps69
  go_wp2_with fail
  go_loopw [3, 4] (fun h i wr => ∃ (k : Nat) (g : Int), k ≤ l.length ∧ i = .int .i64 k ∧ h = .int .u32 g ∧ Hid (hashI l = hashF g (l.drop k)) ∧ w = wr) (fun _ i _ => l.length - (intOf i).toNat)
  case atStart => exact ⟨0, 2166136261, Nat.zero_le _, rfl, rfl, Lib.hid (by simp [hashI]), rfl⟩
  case round =>
    obtain ⟨k, g, hk, rfl, rfl, HF, rfl⟩ := hrel
    by_cases hlt : k < l.length
    · obtain ⟨ad, rfl, hb, c0⟩ := hr.at_ hlt
      have hw0 : 0 ≤ IntKind.u64.wrap l[k] ∧ IntKind.u64.wrap l[k] < 18446744073709551616 := u64_wrap _
      have HW := Lib.hid hw0
      clear hw0
      go_wp2_with fail
      go_loopw [3, 5, 6] (fun h n i wr => ∃ (j : Nat) (g' m : Int), j ≤ 8 ∧ i = .int .i64 j ∧ h = .int .u32 g' ∧ n = .int .u64 m ∧ Hid (0 ≤ m ∧ m < 18446744073709551616) ∧ Hid (mixN g (IntKind.u64.wrap l[k]) 8 = mixN g' m (8 - j)) ∧ w = wr) (fun _ _ i _ => 8 - (intOf i).toNat)
      case atStart => exact ⟨0, g, _, by omega, rfl, rfl, rfl, HW, Lib.hid rfl, rfl⟩
      case round =>
        obtain ⟨j, g', m, hj, rfl, rfl, rfl, HB, HM, rfl⟩ := hrel
        by_cases hjl : j < 8
        · have HS := Lib.hid (mix_step0 g' m j hjl)
          have hm0 : 0 ≤ m := HB.out.1
          have hm1 : Hid (0 ≤ m / 256 ∧ m / 256 < 18446744073709551616) := by have := HB.out; exact Lib.hid (by omega)
          have hdv : IntKind.u64.wrap (m.tdiv 256) = m / 256 := by
            have e : IntKind.u64.wrap (m.tdiv 256) = m.tdiv 256 % 18446744073709551616 := rfl
            have hb := HB.out
            rw [e, Int.tdiv_eq_ediv_of_nonneg hm0]; omega
          go_wp2_with fail
          go_roundw
          case rel => exact ⟨j + 1, _, m / 256, by omega, by go_num, rfl, rfl, hm1, Lib.hid (HM.out.trans HS.out), trivial⟩
          case measure => simp [intOf]; omega
        · obtain rfl : j = 8 := by omega
          have HS : Hid (mixN g (IntKind.u64.wrap l[k]) 8 = g') := HM.out
          have HT := Lib.hid (hashF_at g l k hlt)
          go_wp2_with fail
          go_roundw
          case rel => exact ⟨k + 1, _, by omega, by go_num, rfl, Lib.hid (by rw [HF.out, HT.out, HS.out]), trivial⟩
          case measure => simp [intOf]; omega
    · have HT := Lib.hid (hashF_end g l k (by omega))
      go_wp2_with fail
      go_ret
      exact ⟨by rw [HF.out, HT.out]; rfl, rfl⟩

/-! ### the size -/
def sizeG (n p : Nat) : Nat := if h : 6 * p < n ∧ 0 < p then sizeG n (2 * p) else 8 * p
  termination_by n - p
theorem sizeG_lt {n p : Nat} (h : 6 * p < n) (h0 : 0 < p) : sizeG n p = sizeG n (2 * p) := by rw [sizeG, dif_pos ⟨h, h0⟩]
theorem sizeG_ge {n p : Nat} (h : n ≤ 6 * p) : sizeG n p = 8 * p := by rw [sizeG, dif_neg (by omega)]
def sizeN (n : Nat) : Nat := sizeG n 1

set_option maxHeartbeats 400000 in
theorem size_any (n : Nat) (w : World) (hn : n ≤ 1000000) :
    Calls Try.prog 58 #[.int .i64 n] w fun e w' => e = .returned (.int .i64 (sizeN n)) ∧ w = w' := by
  go_enter Try.func58, Try.ntmps58
  have h0 : (0 : Int) ≤ n := by omega
  go_wp2_with fail
  go_loopw [4] (fun s wr => ∃ p : Nat, 0 < p ∧ p ≤ 1000000 ∧ s = .int .u64 (8 * p) ∧ Hid (sizeN n = sizeG n p) ∧ w = wr) (fun s _ => 8000000 - (intOf s).toNat)
  case atStart => exact ⟨1, by omega, by omega, rfl, Lib.hid rfl, rfl⟩
  case round =>
    obtain ⟨p, hp, hp2, rfl, HS, rfl⟩ := hrel
    by_cases hlt : 6 * p < n
    · have HT := Lib.hid (sizeG_lt hlt hp)
      have hz : ((8 * (p : Int)) != 0) = true := by simp; omega
      have hd : decide (8 * (p : Int) / 4 * 3 < n) = true := by simp; omega
      go_wp2_with fail
      go_roundw
      case rel => exact ⟨2 * p, by omega, by omega, by simp; omega, Lib.hid (HS.out.trans HT.out), trivial⟩
      case measure => simp [intOf]; omega
    · have HT := Lib.hid (sizeG_ge (Nat.le_of_not_lt hlt))
      have hz : ((8 * (p : Int)) != 0) = true := by simp; omega
      have hd : decide (8 * (p : Int) / 4 * 3 < n) = false := by simp; omega
      go_wp2_with fail
      go_ret
      exact ⟨by rw [HS.out, HT.out]; simp, rfl⟩
set_option maxHeartbeats 400000 in
theorem refSize_any (n : Nat) (w : World) (hn : n ≤ 1000000) :
    Calls Try.prog 68 #[.int .i64 n] w fun e w' => e = .returned (.int .i64 (sizeN n)) ∧ w = w' := by
  go_enter Try.func68, Try.ntmps68
  go_wp2_with fail
  go_loopw [3] (fun s wr => ∃ p : Nat, 0 < p ∧ p ≤ 1000000 ∧ s = .int .i64 (8 * p) ∧ Hid (sizeN n = sizeG n p) ∧ w = wr) (fun s _ => 8000000 - (intOf s).toNat)
  case atStart => exact ⟨1, by omega, by omega, rfl, Lib.hid rfl, rfl⟩
  case round =>
    obtain ⟨p, hp, hp2, rfl, HS, rfl⟩ := hrel
    by_cases hlt : 6 * p < n
    · have HT := Lib.hid (sizeG_lt hlt hp)
      go_wp2_with fail
      go_roundw
      case rel => exact ⟨2 * p, by omega, by omega, by simp; omega, Lib.hid (HS.out.trans HT.out), trivial⟩
      case measure => simp [intOf]; omega
    · have HT := Lib.hid (sizeG_ge (Nat.le_of_not_lt hlt))
      go_wp2_with fail
      go_ret
      exact ⟨by rw [HS.out, HT.out]; simp, rfl⟩

/-! ### are two rows the same? -/
def eqL : List Int → List Int → Bool
  | [], [] => true
  | x :: l, y :: m => (x == y) && eqL l m
  | _, _ => false
theorem eqL_iff : ∀ (l m : List Int), eqL l m = true ↔ l = m
  | [], [] => by simp [eqL]
  | [], _ :: _ => by simp [eqL]
  | _ :: _, [] => by simp [eqL]
  | x :: l, y :: m => by simp [eqL, eqL_iff l m]
theorem eqL_len {l m : List Int} (h : l.length ≠ m.length) : eqL l m = false := by
  cases e : eqL l m
  · rfl
  · rw [eqL_iff] at e; subst e; exact absurd rfl h
theorem eqL_at (l m : List Int) (k : Nat) (h1 : k < l.length) (h2 : k < m.length) : eqL (l.drop k) (m.drop k) = ((l[k] == m[k]) && eqL (l.drop (k + 1)) (m.drop (k + 1))) := by
  rw [List.drop_eq_getElem_cons h1, List.drop_eq_getElem_cons h2]; rfl
theorem eqL_end (l m : List Int) (k : Nat) (h1 : l.length ≤ k) (h2 : m.length ≤ k) : eqL (l.drop k) (m.drop k) = true := by
  rw [List.drop_eq_nil_of_le h1, List.drop_eq_nil_of_le h2]; rfl

set_option maxHeartbeats 400000 in
theorem equal_any (A B : Option Addr) (n c n' c' : Nat) (l m : List Int) (w : World) (hn : n = l.length) (hn' : n' = m.length) (hr : Ints w w.heap.size A l) (hr' : Ints w w.heap.size B m) (hl : l.length ≤ maxLen) :
    Calls Try.prog 45 #[.slice A n c, .slice B n' c'] w fun e w' => e = .returned (.bool (eqL l m)) ∧ ∃ d, w' = w.drewN d := by
  subst hn
  subst hn'
  unfold maxLen at hl
  by_cases hlen : l.length = m.length
  · have HE := Lib.hid hlen
    have hne : ((l.length : Int) != (m.length : Int)) = false := by simp [hlen]
    clear hlen
    go_enter Try.func45, Try.ntmps45
    go_wp2_with fail
    go_loopw [5, 13] (fun _ i wr => ∃ k : Nat, k ≤ l.length ∧ i = .int .i64 k ∧ Hid (eqL l m = eqL (l.drop k) (m.drop k)) ∧ ∃ d, wr = w.drewN d) (fun _ i _ => l.length - (intOf i).toNat)
    case atStart => exact ⟨0, Nat.zero_le _, rfl, Lib.hid (by simp), 0, rfl⟩
    case round =>
      obtain ⟨k, hk, rfl, HF, d, rfl⟩ := hrel
      by_cases hlt : k < l.length
      · have hlt' : k < m.length := by have := HE.out; omega
        obtain ⟨ad, rfl, hb, c0⟩ := hr.at_ hlt
        obtain ⟨ad', rfl, hb', c0'⟩ := hr'.at_ hlt'
        have HS := Lib.hid (eqL_at l m k hlt hlt')
        clear hr hr'
        cases he : (l[k] == m[k])
        · have HS' : Hid (eqL (l.drop k) (m.drop k) = false) := by have := HS.out; rw [he] at this; exact this
          have he' : (l[k] != m[k]) = true := by simpa using he
          clear he
          go_wp2_with fail
          go_region
          all_goals go_wp2_with fail
          all_goals go_ret
          all_goals exact ⟨by rw [HF.out, HS'.out]; rfl, d + 1, rfl⟩
        · have HS' : Hid (eqL (l.drop k) (m.drop k) = eqL (l.drop (k + 1)) (m.drop (k + 1))) := by have := HS.out; rw [he] at this; exact this
          have he' : (l[k] != m[k]) = false := by simpa using he
          clear he
          go_wp2_with fail
          go_region
          all_goals go_wp2_with fail
          all_goals go_roundw
          case rel => exact ⟨k + 1, by omega, by go_num, Lib.hid (HF.out.trans HS'.out), d + 1, rfl⟩
          case measure => simp [intOf]; omega
      · have HS := Lib.hid (eqL_end l m k (by omega) (by have := HE.out; omega))
        go_wp2_with fail
        go_ret
        exact ⟨by rw [HF.out, HS.out]; rfl, d, rfl⟩
  · have hne : ((l.length : Int) != (m.length : Int)) = true := by simp; omega
    have HS := Lib.hid (eqL_len hlen)
    go_enter Try.func45, Try.ntmps45
    go_wp2_with fail
    go_ret
    exact ⟨by rw [HS.out]; rfl, 0, rfl⟩
end Go.Proofs.Ytgnbempkobgeiaa.Hs
