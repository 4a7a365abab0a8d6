/-
  Contracts: signEnd, begins; how far the token at a place goes, and plain facts on it.
-/
import Derived.Test.YtanbhfhhomopfaaDoorLexC
namespace Go.Proofs.YtanbhfhhomopfaaDoor.Lx
open Go.RowKit Kit

def pre (p l : List UInt8) : Bool := Lib.hasPrefix l p
/-- how far a sign goes from a place on; 0: there is none -/
def signE (l : List UInt8) : Nat := if pre [60, 61] l = true ∨ pre [58, 61] l = true then 2 else if 0 ≤ Lib.indexByte signs (l.headD 0) then 1 else 0
def signsS : ByteArray := ⟨#[40, 41, 44, 124, 38, 126, 43, 45, 61, 42, 123, 125, 59, 58]⟩

theorem sub_data (s : ByteArray) (p : Nat) : (s.extract p s.size).data.toList = from_ s p := by
  simp [from_]; exact List.take_of_length_le (by simp)
theorem sub_zero (s : ByteArray) (p : Nat) (h : p < s.size) (h0 : 0 < (s.extract p s.size).size) : (s.extract p s.size)[0] = s[p] := by
  simp [ByteArray.getElem_extract]

theorem sub_head (s : ByteArray) (p : Nat) (h : p < s.size) : (from_ s p).headD 0 = s[p] := by rw [from_at s p h]; rfl
theorem u8_back (b : UInt8) : ((b.toNat : Int)).toNat.toUInt8 = b := by simp

set_option maxRecDepth 100000 in
set_option maxHeartbeats 1000000 in
theorem signEnd_any (s : ByteArray) (p : Nat) (w : World) (hp : p < s.size) (hs : s.size ≤ 1000000) :
    Calls Tryd.prog 30 #[.string s, .int .i64 (p : Int)] w fun e w' => e = .returned (.int .i64 ((p + signE (from_ s p) : Nat) : Int)) ∧ w = w' := by
  have C1 : Hid (∀ W, Calls Tryd.prog 41 #[.string (s.extract p s.size), .string ⟨#[60, 61]⟩] W fun e W' => e = .returned (.bool (pre [60, 61] (from_ s p))) ∧ W' = W) := fun W => by
    have := Tryd.strings_HasPrefix (s.extract p s.size) ⟨#[60, 61]⟩ W
    rw [sub_data] at this
    exact this
  have C2 : Hid (∀ W, Calls Tryd.prog 41 #[.string (s.extract p s.size), .string ⟨#[58, 61]⟩] W fun e W' => e = .returned (.bool (pre [58, 61] (from_ s p))) ∧ W' = W) := fun W => by
    have := Tryd.strings_HasPrefix (s.extract p s.size) ⟨#[58, 61]⟩ W
    rw [sub_data] at this
    exact this
  have hz : 0 < (s.extract p s.size).size := by simp; omega
  have hz0 := sub_zero s p hp hz
  have C3 : Hid (∀ W, Calls Tryd.prog 42 #[.string ⟨#[40, 41, 44, 124, 38, 126, 43, 45, 61, 42, 123, 125, 59, 58]⟩, .int .u8 (s[p].toNat : Int)] W fun e W' => e = .returned (.int .i64 (Lib.indexByte signs ((from_ s p).headD 0))) ∧ W' = W) := fun W => by
    have := Tryd.strings_IndexByte ⟨#[40, 41, 44, 124, 38, 126, 43, 45, 61, 42, 123, 125, 59, 58]⟩ (s[p].toNat : Int) W
    rw [u8_back] at this
    rw [sub_head s p hp]
    exact this
  generalize hr : s.extract p s.size = rest at C1 C2 hz hz0
  generalize hix : Lib.indexByte signs ((from_ s p).headD 0) = ix at C3
  have HX := Lib.hid hix
  clear hix
  cases h1 : pre [60, 61] (from_ s p)
  · cases h2 : pre [58, 61] (from_ s p)
    · rw [h1] at C1
      rw [h2] at C2
      by_cases h3 : 0 ≤ ix
      · have HE : Hid (signE (from_ s p) = 1) := by simp only [Hid, signE, h1, h2, HX.out, if_pos h3]; rfl
        clear h1 h2
        go_enter Tryd.func30, Tryd.ntmps30
        go_wp2_with (first
          | (go_at_call 41; (first | refine (C1.out _).mono ?_ | refine (C2.out _).mono ?_); rintro e w1 ⟨rfl, rfl⟩)
          | (go_at_call 42; refine (C3.out _).mono ?_; rintro e w1 ⟨rfl, rfl⟩))
        go_ret
        exact ⟨by rw [HE.out]; first | rfl | (refine congrArg (fun v => Ending.returned (Value.int .i64 v)) ?_; go_num), by trivial⟩
      · have HE : Hid (signE (from_ s p) = 0) := by simp only [Hid, signE, h1, h2, HX.out, if_neg h3]; rfl
        clear h1 h2
        go_enter Tryd.func30, Tryd.ntmps30
        go_wp2_with (first
          | (go_at_call 41; (first | refine (C1.out _).mono ?_ | refine (C2.out _).mono ?_); rintro e w1 ⟨rfl, rfl⟩)
          | (go_at_call 42; refine (C3.out _).mono ?_; rintro e w1 ⟨rfl, rfl⟩))
        go_ret
        exact ⟨by rw [HE.out]; first | rfl | (refine congrArg (fun v => Ending.returned (Value.int .i64 v)) ?_; go_num), by trivial⟩
    · rw [h1] at C1
      rw [h2] at C2
      have HE : Hid (signE (from_ s p) = 2) := by simp only [Hid, signE, h2]; simp
      clear h1 h2
      go_enter Tryd.func30, Tryd.ntmps30
      go_wp2_with (go_at_call 41; (first | refine (C1.out _).mono ?_ | refine (C2.out _).mono ?_); rintro e w1 ⟨rfl, rfl⟩)
      go_ret
      exact ⟨by rw [HE.out]; first | rfl | (refine congrArg (fun v => Ending.returned (Value.int .i64 v)) ?_; go_num), by trivial⟩
  · rw [h1] at C1
    have HE : Hid (signE (from_ s p) = 2) := by simp only [Hid, signE, h1]; simp
    clear h1
    go_enter Tryd.func30, Tryd.ntmps30
    go_wp2_with (go_at_call 41; refine (C1.out _).mono ?_; rintro e w1 ⟨rfl, rfl⟩)
    go_ret
    exact ⟨by rw [HE.out]; first | rfl | (refine congrArg (fun v => Ending.returned (Value.int .i64 v)) ?_; go_num), by trivial⟩

/-! ### which kind, and what tells how far -/
def kindC (c : UInt8) : Int := if ltr c = true then 1 else if fig c = true then 2 else 3
def endC (c : UInt8) : FuncId := if ltr c = true then 28 else if fig c = true then 23 else 30

theorem begins_any (s : ByteArray) (p : Nat) (w : World) (hp : p < s.size) :
    Calls Tryd.prog 20 #[.string s, .int .i64 (p : Int)] w fun e w' => e = .returned (.tuple #[.int .i64 (kindC s[p]), .func (.func (endC s[p])) #[.string s] #[]]) ∧ w = w' := by
  have CL : Hid (∀ W, Calls Tryd.prog 27 #[.int .u8 (s[p].toNat : Int)] W fun e W' => e = .returned (.bool (ltr s[p])) ∧ W = W') := fun W => isLetter_any _ W
  have CF : Hid (∀ W, Calls Tryd.prog 29 #[.int .u8 (s[p].toNat : Int)] W fun e W' => e = .returned (.bool (fig s[p])) ∧ W = W') := fun W => isFigure_any _ W
  have hK : Hid (kindC s[p] = if ltr s[p] = true then 1 else if fig s[p] = true then 2 else 3) := rfl
  have hE : Hid (endC s[p] = if ltr s[p] = true then 28 else if fig s[p] = true then 23 else 30) := rfl
  generalize ltr s[p] = bl at *
  generalize fig s[p] = bf at *
  cases bl
  · cases bf
    all_goals
      go_enter Tryd.func20, Tryd.ntmps20
      go_wp2_with (first
        | (go_at_call 27; refine (CL.out _).mono ?_; rintro e w1 ⟨rfl, rfl⟩)
        | (go_at_call 29; refine (CF.out _).mono ?_; rintro e w1 ⟨rfl, rfl⟩))
      go_ret2
      exact ⟨by rw [hK.out, hE.out]; rfl, by trivial⟩
  · go_enter Tryd.func20, Tryd.ntmps20
    go_wp2_with (go_at_call 27; refine (CL.out _).mono ?_; rintro e w1 ⟨rfl, rfl⟩)
    go_ret2
    exact ⟨by rw [hK.out, hE.out]; rfl, by trivial⟩

/-! ### the same, plainly -/
theorem ltr_goes {c : UInt8} (h : ltr c = true) : goes c = true := by unfold goes goesI; unfold ltr at h; rw [h]; rfl
theorem name_len (s : ByteArray) (p : Nat) (hp : p < s.size) (h : ltr s[p] = true) : tk s[p] (from_ s (p + 1)) = some (1, run_ goes s (p + 1)) ∧ run_ goes s p = run_ goes s (p + 1) + 1 :=
  ⟨by unfold tk; rw [if_pos h]; rfl, run_yes hp (ltr_goes h)⟩
theorem number_len (s : ByteArray) (p : Nat) (hp : p < s.size) (h : fig s[p] = true) : numLen s[p] (from_ s (p + 1)) = if numE s p = 0 then none else some (numE s p - 1) := by
  have e := run_yes hp h
  have e2 : (from_ s p).head? = some s[p] := by rw [from_at s p hp]; rfl
  have e3 : ((from_ s (p + 1)).takeWhile fig).length = run_ fig s (p + 1) := rfl
  unfold numE numLen
  rw [e, e2, e3]
  generalize run_ fig s (p + 1) = n
  have hA : (9 < n + 1 ∨ (1 < n + 1 ∧ some s[p] = some 48)) ↔ (9 ≤ n ∨ (1 ≤ n ∧ s[p] = 48)) := by
    rw [Option.some.injEq]
    constructor
    · rintro (h | ⟨h, h'⟩)
      · exact .inl (by omega)
      · exact .inr ⟨by omega, h'⟩
    · rintro (h | ⟨h, h'⟩)
      · exact .inl (by omega)
      · exact .inr ⟨by omega, h'⟩
  simp only [hA]
  split <;> simp
theorem index_mem (c : UInt8) : ∀ l : List UInt8, 0 ≤ Lib.indexByte l c ↔ c ∈ l
  | [] => by simp [Lib.indexByte]
  | b :: l => by
    have ih := index_mem c l
    have hg := Lib.indexByte_ge l c
    unfold Lib.indexByte
    by_cases hb : b = c
    · subst hb; simp
    · have hb' : (b == c) = false := by simpa using hb
      have hb2 : ¬ c = b := fun e => hb e.symm
      rw [hb']
      simp only [Bool.false_eq_true, if_false, List.mem_cons, hb2, false_or]
      rw [← ih]
      by_cases h1 : Lib.indexByte l c = -1
      · simp [h1]
      · have : (Lib.indexByte l c == -1) = false := by simpa using h1
        rw [this]; simp; omega
theorem pre_two (a c : UInt8) (r : List UInt8) : pre [a, 61] (c :: r) = true ↔ c = a ∧ r.head? = some 61 := by
  cases r with
  | nil => simp [pre, Lib.hasPrefix]
  | cons d r =>
    show (a == c && (61 == d && true)) = true ↔ _
    simp only [Bool.and_true, Bool.and_eq_true, beq_iff_eq, List.head?_cons, Option.some.injEq]
    constructor <;> rintro ⟨h, h'⟩ <;> exact ⟨h.symm, h'.symm⟩
theorem sign_len (c : UInt8) (r : List UInt8) : signLen c r = if signE (c :: r) = 0 then none else some (signE (c :: r) - 1) := by
  have h1 : pre [60, 61] (c :: r) = true ↔ c = 60 ∧ r.head? = some 61 := pre_two 60 c r
  have h2 : pre [58, 61] (c :: r) = true ↔ c = 58 ∧ r.head? = some 61 := pre_two 58 c r
  unfold signLen signE
  by_cases h3 : (c = 60 ∨ c = 58) ∧ r.head? = some 61
  · have h4 : pre [60, 61] (c :: r) = true ∨ pre [58, 61] (c :: r) = true := by rw [h1, h2]; rcases h3 with ⟨h | h, h'⟩ <;> simp [h, h']
    simp [if_pos h3, if_pos h4]
  · have h4 : ¬ (pre [60, 61] (c :: r) = true ∨ pre [58, 61] (c :: r) = true) := by
      rw [h1, h2]; rintro (⟨h, h'⟩ | ⟨h, h'⟩) <;> exact h3 (by simp [h, h'])
    rw [if_neg h3, if_neg h4]
    have h5 := index_mem c signs
    simp only [List.headD_cons]
    by_cases h6 : c ∈ signs
    · simp [h6, h5.2 h6]
    · have h7 : ¬ 0 ≤ Lib.indexByte signs c := fun h => h6 (h5.1 h)
      simp [h6, h7]
/-- how far the token at a place goes; 0: there is none -/
def goE (s : ByteArray) (p : Nat) (c : UInt8) : Nat := if ltr c = true then run_ goes s p else if fig c = true then numE s p else signE (from_ s p)
theorem tk_go (s : ByteArray) (p : Nat) (hp : p < s.size) : tk s[p] (from_ s (p + 1)) = if goE s p s[p] = 0 then none else some ((kindC s[p]).toNat, goE s p s[p] - 1) := by
  unfold goE kindC
  cases hl : ltr s[p]
  · cases hf : fig s[p]
    · unfold tk; simp only [hl, hf, Bool.false_eq_true, if_false]; rw [sign_len, ← from_at s p hp]; split <;> rfl
    · unfold tk; simp only [hl, hf, Bool.false_eq_true, if_false, if_true]; rw [number_len s p hp hf]; split <;> rfl
  · obtain ⟨h1, h2⟩ := name_len s p hp hl
    simp [h1, h2]
end Go.Proofs.YtanbhfhhomopfaaDoor.Lx
