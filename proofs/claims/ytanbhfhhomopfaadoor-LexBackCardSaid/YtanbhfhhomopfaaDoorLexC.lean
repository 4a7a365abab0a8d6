/-
  Contracts: how far a token goes (over, nameEnd, numberEnd, signEnd), and which kind it is (begins).
-/
import Derived.Test.YtanbhfhhomopfaaDoorLexB
import Derived.Test.YtanbhfhhomopfaaDoorShelf
namespace Go.Proofs.YtanbhfhhomopfaaDoor.Lx
open Go.RowKit Kit

/-- a text's bytes, from a place on -/
def from_ (s : ByteArray) (k : Nat) : List UInt8 := s.data.toList.drop k
theorem from_at (s : ByteArray) (k : Nat) (h : k < s.size) : from_ s k = s[k] :: from_ s (k + 1) := List.drop_eq_getElem_cons (by simpa using h)
theorem from_end (s : ByteArray) (k : Nat) (h : s.size ≤ k) : from_ s k = [] := List.drop_eq_nil_of_le (by simpa using h)
theorem from_len (s : ByteArray) (k : Nat) : (from_ s k).length = s.size - k := by simp [from_]
def run_ (f : UInt8 → Bool) (s : ByteArray) (k : Nat) : Nat := ((from_ s k).takeWhile f).length
theorem run_yes {f : UInt8 → Bool} {s : ByteArray} {k : Nat} (h : k < s.size) (hf : f s[k] = true) : run_ f s k = run_ f s (k + 1) + 1 := by
  unfold run_; rw [from_at s k h]; simp [hf]
theorem run_no {f : UInt8 → Bool} {s : ByteArray} {k : Nat} (h : k < s.size) (hf : f s[k] = false) : run_ f s k = 0 := by
  unfold run_; rw [from_at s k h]; simp [hf]
theorem run_end {f : UInt8 → Bool} {s : ByteArray} {k : Nat} (h : s.size ≤ k) : run_ f s k = 0 := by
  unfold run_; rw [from_end s k h]; rfl
theorem run_le (f : UInt8 → Bool) (s : ByteArray) (k : Nat) : run_ f s k ≤ s.size - k := by
  unfold run_
  have := takeWhile_le (f := f) (from_ s k)
  rw [from_len] at this
  exact this

set_option maxRecDepth 100000 in
theorem overFig (f : UInt8 → Bool) (s : ByteArray) (p : Nat) (w : World) (hp : p ≤ s.size) (hs : s.size ≤ maxLen)
    (hS : ∀ (c : UInt8) (W : World), Calls Tryd.prog 29 #[.int .u8 (c.toNat : Int)] W fun e W' => e = .returned (.bool (f c)) ∧ W = W') :
    Calls Tryd.prog 34 #[.string s, .int .i64 (p : Int), .func (.func 29) #[] #[]] w fun e w' => e = .returned (.int .i64 ((p + run_ f s p : Nat) : Int)) ∧ w = w' := by
  have HS := Lib.hid hS
  clear hS
  unfold maxLen at hs
  go_enter Tryd.func34, Tryd.ntmps34
  go_wp2_with fail
  go_loopw [1] (fun i wr => ∃ k : Nat, k ≤ s.size ∧ i = .int .i64 k ∧ Hid (k + run_ f s k = p + run_ f s p) ∧ wr = w) (fun i _ => s.size - (intOf i).toNat)
  case atStart => exact ⟨p, hp, rfl, Lib.hid rfl, rfl⟩
  case round =>
    obtain ⟨k, hk, rfl, HK, rfl⟩ := hrel
    by_cases hlt : k < s.size
    · cases hf : f s[k]
      · have HE : Hid (p + run_ f s p = k) := by
          have := HK.out
          rw [run_no hlt hf] at this
          unfold Hid; omega
        have C : Hid (Calls Tryd.prog 29 #[.int .u8 (s[k].toNat : Int)] wr fun e W' => e = .returned (.bool false) ∧ wr = W') := by
          have := HS.out s[k] wr
          rw [hf] at this
          exact this
        clear hf
        go_wp2_with (go_at_call 29; refine C.out.mono ?_; rintro e w1 ⟨rfl, rfl⟩)
        go_ret
        exact ⟨by rw [HE.out]; rfl, rfl⟩
      · have HE : Hid (k + 1 + run_ f s (k + 1) = p + run_ f s p) := by
          have := HK.out
          rw [run_yes hlt hf] at this
          unfold Hid; omega
        have C : Hid (Calls Tryd.prog 29 #[.int .u8 (s[k].toNat : Int)] wr fun e W' => e = .returned (.bool true) ∧ wr = W') := by
          have := HS.out s[k] wr
          rw [hf] at this
          exact this
        clear hf
        go_wp2_with (go_at_call 29; refine C.out.mono ?_; rintro e w1 ⟨rfl, rfl⟩)
        go_roundw
        case rel => exact ⟨k + 1, by omega, by go_num, HE, trivial⟩
        case measure => simp [intOf]; omega
    · have HE : Hid (p + run_ f s p = k) := by
        have := HK.out
        rw [run_end (by omega)] at this
        unfold Hid; omega
      go_wp2_with fail
      go_ret
      exact ⟨by rw [HE.out]; rfl, rfl⟩

set_option maxRecDepth 100000 in
theorem overGoes (f : UInt8 → Bool) (s : ByteArray) (p : Nat) (w : World) (hp : p ≤ s.size) (hs : s.size ≤ maxLen)
    (hS : ∀ (c : UInt8) (W : World), Calls Tryd.prog 40 #[.int .u8 (c.toNat : Int)] W fun e W' => e = .returned (.bool (f c)) ∧ W = W') :
    Calls Tryd.prog 34 #[.string s, .int .i64 (p : Int), .func (.func 40) #[] #[]] w fun e w' => e = .returned (.int .i64 ((p + run_ f s p : Nat) : Int)) ∧ w = w' := by
  have HS := Lib.hid hS
  clear hS
  unfold maxLen at hs
  go_enter Tryd.func34, Tryd.ntmps34
  go_wp2_with fail
  go_loopw [1] (fun i wr => ∃ k : Nat, k ≤ s.size ∧ i = .int .i64 k ∧ Hid (k + run_ f s k = p + run_ f s p) ∧ wr = w) (fun i _ => s.size - (intOf i).toNat)
  case atStart => exact ⟨p, hp, rfl, Lib.hid rfl, rfl⟩
  case round =>
    obtain ⟨k, hk, rfl, HK, rfl⟩ := hrel
    by_cases hlt : k < s.size
    · cases hf : f s[k]
      · have HE : Hid (p + run_ f s p = k) := by
          have := HK.out
          rw [run_no hlt hf] at this
          unfold Hid; omega
        have C : Hid (Calls Tryd.prog 40 #[.int .u8 (s[k].toNat : Int)] wr fun e W' => e = .returned (.bool false) ∧ wr = W') := by
          have := HS.out s[k] wr
          rw [hf] at this
          exact this
        clear hf
        go_wp2_with (go_at_call 40; refine C.out.mono ?_; rintro e w1 ⟨rfl, rfl⟩)
        go_ret
        exact ⟨by rw [HE.out]; rfl, rfl⟩
      · have HE : Hid (k + 1 + run_ f s (k + 1) = p + run_ f s p) := by
          have := HK.out
          rw [run_yes hlt hf] at this
          unfold Hid; omega
        have C : Hid (Calls Tryd.prog 40 #[.int .u8 (s[k].toNat : Int)] wr fun e W' => e = .returned (.bool true) ∧ wr = W') := by
          have := HS.out s[k] wr
          rw [hf] at this
          exact this
        clear hf
        go_wp2_with (go_at_call 40; refine C.out.mono ?_; rintro e w1 ⟨rfl, rfl⟩)
        go_roundw
        case rel => exact ⟨k + 1, by omega, by go_num, HE, trivial⟩
        case measure => simp [intOf]; omega
    · have HE : Hid (p + run_ f s p = k) := by
        have := HK.out
        rw [run_end (by omega)] at this
        unfold Hid; omega
      go_wp2_with fail
      go_ret
      exact ⟨by rw [HE.out]; rfl, rfl⟩

theorem nameEnd_any (s : ByteArray) (p : Nat) (w : World) (hp : p ≤ s.size) (hs : s.size ≤ maxLen) :
    Calls Tryd.prog 28 #[.string s, .int .i64 (p : Int)] w fun e w' => e = .returned (.int .i64 ((p + run_ goes s p : Nat) : Int)) ∧ w = w' := by
  go_enter Tryd.func28, Tryd.ntmps28
  go_wp2_with fail
  refine (overGoes goes s p w hp hs (fun c W => goesOn_any c.toNat W)).mono ?_
  rintro e w1 ⟨rfl, rfl⟩
  go_wp2_with fail
  go_ret
  exact ⟨rfl, rfl⟩

/-- how far a number goes from a place on; 0: it may not be -/
def numE (s : ByteArray) (p : Nat) : Nat := if 9 < run_ fig s p ∨ (1 < run_ fig s p ∧ (from_ s p).head? = some 48) then 0 else run_ fig s p
theorem u8_eq (a b : UInt8) : a = b ↔ (a.toNat : Int) = b.toNat := by
  rw [← UInt8.toNat_inj]; omega

set_option maxRecDepth 100000 in
theorem numberEnd_any (s : ByteArray) (p : Nat) (w : World) (hp : p < s.size) (hs : s.size ≤ maxLen) :
    Calls Tryd.prog 23 #[.string s, .int .i64 (p : Int)] w fun e w' => e = .returned (.int .i64 ((p + numE s p : Nat) : Int)) ∧ w = w' := by
  have HH : Hid ((from_ s p).head? = some s[p]) := by unfold Hid; rw [from_at s p hp]; rfl
  have HN := Lib.hid (run_le fig s p)
  generalize hn : run_ fig s p = n at HN
  have Hn := Lib.hid hn
  have hle := HN.out
  unfold maxLen at hs
  have C : Hid (Calls Tryd.prog 34 #[.string s, .int .i64 (p : Int), .func (.func 29) #[] #[]] w fun e w' => e = .returned (.int .i64 ((p + n : Nat) : Int)) ∧ w = w') := by
    rw [← hn]
    exact overFig fig s p w (by omega) hs (fun c W => isFigure_any c.toNat W)
  clear hn
  have hpn : ((p + n : Nat) : Int) - (p : Int) = (n : Int) := by omega
  by_cases h9 : 9 < n
  · have d9 : decide (9 < (p : Int) + n - p) = true := decide_eq_true (by omega)
    have HE : Hid (numE s p = 0) := by unfold Hid numE; rw [Hn.out, if_pos (.inl h9)]
    go_enter Tryd.func23, Tryd.ntmps23
    go_wp2_with fail
    refine C.out.mono ?_
    rintro e w1 ⟨rfl, rfl⟩
    go_wp2_with fail
    go_ret
    exact ⟨by rw [HE.out]; rfl, rfl⟩
  · have d9 : decide (9 < (p : Int) + n - p) = false := decide_eq_false (by omega)
    by_cases h1 : 1 < n
    · have d1 : decide (1 < (p : Int) + n - p) = true := decide_eq_true (by omega)
      by_cases hc : s[p] = 48
      · have HE : Hid (numE s p = 0) := by unfold Hid numE; rw [Hn.out, if_pos (.inr ⟨h1, by rw [HH.out, hc]⟩)]
        have hc' : ((s[p].toNat : Int) == 48) = true := by rw [hc]; rfl
        clear hc
        go_enter Tryd.func23, Tryd.ntmps23
        go_wp2_with fail
        refine C.out.mono ?_
        rintro e w1 ⟨rfl, rfl⟩
        go_wp2_with fail
        go_ret
        exact ⟨by rw [HE.out]; rfl, rfl⟩
      · have HE : Hid (numE s p = n) := by
          unfold Hid numE
          rw [Hn.out, if_neg]
          rintro (h | ⟨_, h⟩)
          · omega
          · rw [HH.out] at h
            injection h with h
            exact hc h
        have hc' : ((s[p].toNat : Int) == 48) = false := beq_eq_false_iff_ne.2 fun h => hc ((u8_eq _ _).2 h)
        clear hc
        go_enter Tryd.func23, Tryd.ntmps23
        go_wp2_with fail
        refine C.out.mono ?_
        rintro e w1 ⟨rfl, rfl⟩
        go_wp2_with fail
        go_ret
        exact ⟨by rw [HE.out]; rfl, rfl⟩
    · have d1 : decide (1 < (p : Int) + n - p) = false := decide_eq_false (by omega)
      have HE : Hid (numE s p = n) := by
        unfold Hid numE
        rw [Hn.out, if_neg]
        omega
      go_enter Tryd.func23, Tryd.ntmps23
      go_wp2_with fail
      refine C.out.mono ?_
      rintro e w1 ⟨rfl, rfl⟩
      go_wp2_with fail
      go_ret
      exact ⟨by rw [HE.out]; rfl, rfl⟩
end Go.Proofs.YtanbhfhhomopfaaDoor.Lx
