/-
  What layers above lean on of layer 1: rows of constructors in memory, and the document's answer of layer 1 (Con, Args, Find, Right). (Out of the texts of layer 1, without package sig.)
-/
import Derived.Test.YtmohedkhbjeapaaKit
namespace Go.Proofs.Ytmohedkhbjeapaa.Sg
open Go.RowKit Kit

def inB (lo hi c : Int) : Bool := decide (lo ≤ c) && decide (c ≤ hi)

/-! ### names -/
def goesB (c : Int) : Bool := inB 97 122 c || inB 65 90 c || inB 48 57 c || (c == 95)


theorem take_snoc (s : ByteArray) (k : Nat) (h : k < s.size) : s.data.toList.take (k + 1) = s.data.toList.take k ++ [s[k]] := by
  rw [List.take_succ_eq_append_getElem (by simpa using h)]; rfl

def restB (l : List UInt8) : Bool := (l.drop 1).all fun c => goesB c.toNat
theorem restB_snoc (l : List UInt8) (c : UInt8) (h : 1 ≤ l.length) : restB (l ++ [c]) = (restB l && goesB c.toNat) := by
  cases l with
  | nil => simp at h
  | cons a l => simp [restB]

/-- a name whose first byte lies from lo to hi -/
def nameB (lo hi : Int) (l : List UInt8) : Bool :=
  match l with
  | [] => false
  | c :: _ => decide (l.length ≤ 20) && inB lo hi c.toNat && restB l

theorem nameB_short (lo hi : Int) (s : ByteArray) (h : s.size < 1) : nameB lo hi s.data.toList = false := by
  have : s.data.toList.length < 1 := by simpa using h
  match hs : s.data.toList with
  | [] => rfl
  | _ :: _ => rw [hs] at this; simp at this
theorem nameB_long (lo hi : Int) (s : ByteArray) (h : 20 < s.size) : nameB lo hi s.data.toList = false := by
  have h : 20 < s.data.toList.length := by simpa using h
  match hs : s.data.toList with
  | [] => rfl
  | c :: l =>
    rw [hs] at h
    simp only [nameB, decide_eq_false (by omega : ¬ (c :: l).length ≤ 20), Bool.false_and]
theorem nameB_mid (lo hi : Int) (s : ByteArray) (h0 : 0 < s.size) (h : s.size ≤ 20) : nameB lo hi s.data.toList = (inB lo hi (s[0]'h0).toNat && restB s.data.toList) := by
  have h' : s.data.toList.length ≤ 20 := by simpa using h
  have e : s.data.toList = s[0]'h0 :: s.data.toList.drop 1 := by
    exact List.drop_eq_getElem_cons (l := s.data.toList) (i := 0) (by simpa using h0)
  generalize s[0]'h0 = c at e ⊢
  rw [e] at h'
  rw [e]
  simp only [nameB, decide_eq_true h', Bool.true_and]

/-! ### parts -/
def argB (c : Int) : Bool := c == 43 || c == 45 || c == 61
def argsB (l : List UInt8) : Bool := decide (l.length ≤ 8) && l.all fun c => argB c.toNat
theorem all_take_snoc {f : UInt8 → Bool} {l : List UInt8} {c : UInt8} : (l ++ [c]).all f = (l.all f && f c) := by simp


abbrev Sig := ByteArray × ByteArray
/-- a slice value that reads as a row of constructors, below block B -/
def Row (w : World) (B : Nat) (A : Option Addr) (l : List Sig) : Prop :=
  0 < l.length → ∃ ad, A = some ad ∧ ad.block < B ∧ ∀ i s, l[i]? = some s → w.cell? (ad.add (i * 2)) = some (.string s.1) ∧ w.cell? ⟨(ad.add (i * 2)).block, (ad.add (i * 2)).off + 1, none⟩ = some (.string s.2)

theorem add_block (a : Addr) (n : Nat) : (a.add n).block = a.block := by unfold Addr.add; split <;> rfl
theorem add_succ (a : Addr) (n : Nat) : a.add (n + 1) = ⟨(a.add n).block, (a.add n).off + 1, none⟩ := by
  unfold Addr.add
  by_cases h : n = 0 <;> simp [h, Nat.add_assoc]

theorem Row.keep {w w' : World} {B : Nat} {A : Option Addr} {l : List Sig} (h : Row w B A l) (hb : Below B w w') : Row w' B A l := fun h0 => by
  obtain ⟨ad, e, hlt, hc⟩ := h h0
  refine ⟨ad, e, hlt, fun i s hs => ?_⟩
  obtain ⟨c0, c1⟩ := hc i s hs
  exact ⟨(hb.cell (by rw [add_block]; exact hlt)).trans c0, (hb.cell (p := ⟨(ad.add (i * 2)).block, (ad.add (i * 2)).off + 1, none⟩) (by show (ad.add (i * 2)).block < B; rw [add_block]; exact hlt)).trans c1⟩
theorem Row.q {w w' : World} {B : Nat} {A : Option Addr} {l : List Sig} (h : Row w B A l) (hB : B ≤ w.heap.size) (hb : Q w w') : Row w' B A l := h.keep (hb.mono hB)
theorem Row.more {w : World} {B B' : Nat} {A : Option Addr} {l : List Sig} (h : Row w B A l) (hB : B ≤ B') : Row w B' A l := fun h0 => by
  obtain ⟨ad, e, hlt, hc⟩ := h h0
  exact ⟨ad, e, by omega, hc⟩
/-- the cells of one constructor -/
theorem Row.at_ {w : World} {B : Nat} {A : Option Addr} {l : List Sig} (h : Row w B A l) {k : Nat} (hk : k < l.length) :
    ∃ ad, A = some ad ∧ ad.block < B ∧ w.cell? (ad.add (k * 2)) = some (.string l[k].1) ∧ w.cell? ⟨(ad.add (k * 2)).block, (ad.add (k * 2)).off + 1, none⟩ = some (.string l[k].2) := by
  obtain ⟨ad, e, hlt, hc⟩ := h (by omega)
  obtain ⟨c0, c1⟩ := hc k l[k] (List.getElem?_eq_getElem hk)
  exact ⟨ad, e, hlt, c0, c1⟩

/-- two texts are the same -/
def eqS (a b : ByteArray) : Bool := a.toList == b.toList
theorem eqS_iff (a b : ByteArray) : eqS a b = true ↔ a = b := by
  unfold eqS
  rw [beq_iff_eq, ByteArray.toList_eq, ByteArray.toList_eq]
  exact ⟨fun h => ByteArray.ext (Array.toList_inj.mp h), fun h => by rw [h]⟩
theorem eqS_no {a b : ByteArray} (h : eqS a b = false) : a ≠ b := fun e => by rw [(eqS_iff a b).2 e] at h; cases h

/-- where the first constructor of a name stands, from k on; -1 -/
def findI (t : ByteArray) : List Sig → Nat → Int
  | [], _ => -1
  | s :: l, k => if eqS s.1 t then k else findI t l (k + 1)
theorem findI_at (t : ByteArray) (l : List Sig) (k : Nat) (h : k < l.length) : findI t (l.drop k) k = if eqS l[k].1 t then (k : Int) else findI t (l.drop (k + 1)) (k + 1) := by
  rw [List.drop_eq_getElem_cons h]; rfl
theorem findI_end (t : ByteArray) (l : List Sig) (k : Nat) (h : l.length ≤ k) : findI t (l.drop k) k = -1 := by
  rw [List.drop_eq_nil_of_le h]; rfl

/-! ### mayAdd -/
def conB (t : ByteArray) : Bool := nameB 97 122 t.data.toList
def partsB (t : ByteArray) : Bool := argsB t.data.toList

def rightG (L : List Sig) : List Sig → Nat → Bool
  | [], _ => true
  | s :: l, k => (conB s.1 && partsB s.2 && (findI s.1 L 0 == (k : Int))) && rightG L l (k + 1)
def rightB (l : List Sig) : Bool := decide (l.length ≤ 64) && rightG l l 0
theorem rightG_at (L l : List Sig) (k : Nat) (h : k < l.length) : rightG L (l.drop k) k = ((conB l[k].1 && partsB l[k].2 && (findI l[k].1 L 0 == (k : Int))) && rightG L (l.drop (k + 1)) (k + 1)) := by
  rw [List.drop_eq_getElem_cons h]; rfl
theorem rightG_end (L l : List Sig) (k : Nat) (h : l.length ≤ k) : rightG L (l.drop k) k = true := by
  rw [List.drop_eq_nil_of_le h]; rfl


/-! ### copy of elements of several cells -/
/-! ### the cells of a row -/
/-! ### Add -/


/-! ### the document's answer: names, parts, places -/
theorem small_any (c : Int) (w : World) :
    Calls Try.prog 49 #[.int .u8 c] w fun e w' => e = .returned (.bool (inB 97 122 c)) ∧ w = w' := by
  by_cases h : 97 ≤ c
  · have d : decide (97 ≤ c) = true := by simpa using h
    have HR : Hid (inB 97 122 c = decide (c ≤ 122)) := by unfold Hid inB; rw [d]; rfl
    go_enter Try.func49, Try.ntmps49
    go_wp2_with fail
    go_ret
    exact ⟨by rw [HR.out]; rfl, rfl⟩
  · have d : decide (97 ≤ c) = false := by simpa using h
    have HR : Hid (inB 97 122 c = false) := by unfold Hid inB; rw [d]; rfl
    go_enter Try.func49, Try.ntmps49
    go_wp2_with fail
    go_ret
    exact ⟨by rw [HR.out]; rfl, rfl⟩
theorem big_any (c : Int) (w : World) :
    Calls Try.prog 54 #[.int .u8 c] w fun e w' => e = .returned (.bool (inB 65 90 c)) ∧ w = w' := by
  by_cases h : 65 ≤ c
  · have d : decide (65 ≤ c) = true := by simpa using h
    have HR : Hid (inB 65 90 c = decide (c ≤ 90)) := by unfold Hid inB; rw [d]; rfl
    go_enter Try.func54, Try.ntmps54
    go_wp2_with fail
    go_ret
    exact ⟨by rw [HR.out]; rfl, rfl⟩
  · have d : decide (65 ≤ c) = false := by simpa using h
    have HR : Hid (inB 65 90 c = false) := by unfold Hid inB; rw [d]; rfl
    go_enter Try.func54, Try.ntmps54
    go_wp2_with fail
    go_ret
    exact ⟨by rw [HR.out]; rfl, rfl⟩

def letB (c : Int) : Bool := inB 97 122 c || inB 65 90 c
def figB (c : Int) : Bool := inB 48 57 c || (c == 95)
def okAt (k : Nat) (c : Int) : Bool := letB c || (!(k == 0) && figB c)
def okFrom : List UInt8 → Nat → Bool
  | [], _ => true
  | c :: l, k => okAt k c.toNat && okFrom l (k + 1)
def nmB (l : List UInt8) : Bool := decide (1 ≤ l.length) && decide (l.length ≤ 20) && okFrom l 0
theorem okFrom_at (l : List UInt8) (k : Nat) (h : k < l.length) : okFrom (l.drop k) k = (okAt k l[k].toNat && okFrom (l.drop (k + 1)) (k + 1)) := by
  rw [List.drop_eq_getElem_cons h]; rfl
theorem okFrom_end (l : List UInt8) (k : Nat) (h : l.length ≤ k) : okFrom (l.drop k) k = true := by
  rw [List.drop_eq_nil_of_le h]; rfl
theorem okFrom_rest : ∀ (l : List UInt8) (k : Nat), okFrom l (k + 1) = l.all fun c => goesB c.toNat
  | [], _ => rfl
  | c :: l, k => by
    show (okAt (k + 1) c.toNat && okFrom l (k + 2)) = (goesB c.toNat && _)
    rw [okFrom_rest l (k + 1)]
    have e : okAt (k + 1) c.toNat = goesB c.toNat := by
      unfold okAt letB figB goesB
      generalize inB 97 122 c.toNat = p, inB 65 90 c.toNat = q, inB 48 57 c.toNat = r, ((c.toNat : Int) == 95) = t
      rw [show ((k + 1) == 0) = false by simp]
      revert p q r t; decide
    rw [e]
theorem con_of_nm (l : List UInt8) (h : 0 < l.length) : (nmB l && inB 97 122 (l[0].toNat : Int)) = nameB 97 122 l := by
  match l, h with
  | c :: l, _ =>
    simp only [List.getElem_cons_zero]
    show (decide (1 ≤ (c :: l).length) && decide ((c :: l).length ≤ 20) && (okAt 0 c.toNat && okFrom l (0 + 1)) && _) = (decide ((c :: l).length ≤ 20) && inB 97 122 c.toNat && l.all _)
    rw [okFrom_rest l 0, decide_eq_true (by simp : 1 ≤ (c :: l).length)]
    unfold okAt letB
    generalize inB 97 122 c.toNat = p, inB 65 90 c.toNat = q, (l.all fun c => goesB c.toNat) = r, decide ((c :: l).length ≤ 20) = t, figB c.toNat = u
    revert p q r t u; decide

set_option maxHeartbeats 400000 in
theorem name_any (s : ByteArray) (w : World) :
    Calls Try.prog 48 #[.string s] w fun e w' => e = .returned (.bool (nmB s.data.toList)) ∧ w = w' := by
  have hlen : s.data.toList.length = s.size := by simp
  by_cases h0 : s.size < 1
  · have HR : Hid (nmB s.data.toList = false) := by unfold Hid nmB; rw [hlen, decide_eq_false (by omega)]; rfl
    clear hlen
    go_enter Try.func48, Try.ntmps48
    go_wp2_with fail
    go_ret
    exact ⟨by rw [HR.out]; rfl, rfl⟩
  · by_cases h20 : 20 < s.size
    · have HR : Hid (nmB s.data.toList = false) := by unfold Hid nmB; rw [hlen, decide_eq_false (by omega : ¬ s.size ≤ 20), Bool.and_false]; rfl
      clear hlen
      go_enter Try.func48, Try.ntmps48
      go_wp2_with fail
      go_ret
      exact ⟨by rw [HR.out]; rfl, rfl⟩
    · have HR : Hid (nmB s.data.toList = okFrom s.data.toList 0) := by unfold Hid nmB; rw [hlen, decide_eq_true (by omega), decide_eq_true (by omega)]; rfl
      have d1 : decide ((s.size : Int) < 1) = false := by simp; omega
      have d2 : decide (20 < (s.size : Int)) = false := by simp; omega
      clear hlen
      go_enter Try.func48, Try.ntmps48
      go_wp2_with fail
      go_loop [3, 4, 5] (fun i _ _ => ∃ k : Nat, k ≤ s.size ∧ i = .int .i64 k ∧ Hid (okFrom s.data.toList 0 = okFrom (s.data.toList.drop k) k)) (fun i _ _ => s.size - (intOf i).toNat)
      case atStart => exact ⟨0, Nat.zero_le _, rfl, Lib.hid (by simp)⟩
      case round =>
        obtain ⟨k, hk, rfl, HF⟩ := hrel
        by_cases hlt : k < s.size
        · have HS : Hid (okFrom (s.data.toList.drop k) k = (okAt k s[k].toNat && okFrom (s.data.toList.drop (k + 1)) (k + 1))) := okFrom_at s.data.toList k (by simpa using hlt)
          go_upto_region 6 with fail
          go_cut [4] (fun f wx => f = .bool (figB s[k].toNat) ∧ wx = w)
          case first =>
            go_wp2_with fail
            all_goals go_meet
            all_goals
              refine ⟨congrArg Value.bool ?_, rfl⟩
              rw [Bool.eq_iff_iff]
              simp only [figB, inB, Bool.or_eq_true, Bool.and_eq_true, decide_eq_true_eq, beq_iff_eq]
              first | omega | (refine ⟨fun _ => ?_, fun _ => trivial⟩; omega)
          case rest =>
            obtain ⟨rfl, rfl⟩ := hcut
            have HO : Hid (okAt k s[k].toNat = (inB 97 122 s[k].toNat || inB 65 90 s[k].toNat || (!(k == 0) && figB s[k].toNat))) := rfl
            cases hp : inB 97 122 s[k].toNat
            · cases hq : inB 65 90 s[k].toNat
              · by_cases hk0 : k = 0
                · have HS' : Hid (okFrom (s.data.toList.drop k) k = false) := by unfold Hid; rw [HS.out, HO.out, hp, hq, show (k == 0) = true by simpa using hk0]; rfl
                  have hk0' : ((k : Int) == 0) = true := by simpa using hk0
                  clear hk0
                  go_wp2_with (first | (go_at_call 49; refine (small_any _ _).mono ?_; rintro e w' ⟨rfl, rfl⟩) | (go_at_call 54; refine (big_any _ _).mono ?_; rintro e w' ⟨rfl, rfl⟩))
                  go_ret
                  exact ⟨by rw [HR.out, HF.out, HS'.out]; rfl, rfl⟩
                · have hk0' : ((k : Int) == 0) = false := by simpa using hk0
                  have hk1 : (k == 0) = false := by simpa using hk0
                  cases hf : figB s[k].toNat
                  · have HS' : Hid (okFrom (s.data.toList.drop k) k = false) := by unfold Hid; rw [HS.out, HO.out, hp, hq, hk1, hf]; rfl
                    clear hk0 hk1
                    go_wp2_with (first | (go_at_call 49; refine (small_any _ _).mono ?_; rintro e w' ⟨rfl, rfl⟩) | (go_at_call 54; refine (big_any _ _).mono ?_; rintro e w' ⟨rfl, rfl⟩))
                    go_ret
                    exact ⟨by rw [HR.out, HF.out, HS'.out]; rfl, rfl⟩
                  · have HS' : Hid (okFrom (s.data.toList.drop k) k = okFrom (s.data.toList.drop (k + 1)) (k + 1)) := by unfold Hid; rw [HS.out, HO.out, hp, hq, hk1, hf]; rfl
                    clear hk0 hk1
                    go_wp2_with (first | (go_at_call 49; refine (small_any _ _).mono ?_; rintro e w' ⟨rfl, rfl⟩) | (go_at_call 54; refine (big_any _ _).mono ?_; rintro e w' ⟨rfl, rfl⟩))
                    go_round
                    case rel => exact ⟨k + 1, by omega, by go_num, Lib.hid (HF.out.trans HS'.out)⟩
                    case measure => simp [intOf]; omega
              · have HS' : Hid (okFrom (s.data.toList.drop k) k = okFrom (s.data.toList.drop (k + 1)) (k + 1)) := by unfold Hid; rw [HS.out, HO.out, hp, hq]; rfl
                go_wp2_with (first | (go_at_call 49; refine (small_any _ _).mono ?_; rintro e w' ⟨rfl, rfl⟩) | (go_at_call 54; refine (big_any _ _).mono ?_; rintro e w' ⟨rfl, rfl⟩))
                go_round
                case rel => exact ⟨k + 1, by omega, by go_num, Lib.hid (HF.out.trans HS'.out)⟩
                case measure => simp [intOf]; omega
            · have HS' : Hid (okFrom (s.data.toList.drop k) k = okFrom (s.data.toList.drop (k + 1)) (k + 1)) := by unfold Hid; rw [HS.out, HO.out, hp]; rfl
              go_wp2_with (first | (go_at_call 49; refine (small_any _ _).mono ?_; rintro e w' ⟨rfl, rfl⟩) | (go_at_call 54; refine (big_any _ _).mono ?_; rintro e w' ⟨rfl, rfl⟩))
              go_round
              case rel => exact ⟨k + 1, by omega, by go_num, Lib.hid (HF.out.trans HS'.out)⟩
              case measure => simp [intOf]; omega
        · have HS := Lib.hid (okFrom_end s.data.toList k (by simp; omega))
          go_wp2_with fail
          go_ret
          exact ⟨by rw [HR.out, HF.out, HS.out]; rfl, rfl⟩

set_option maxHeartbeats 400000 in
theorem con_any (s : ByteArray) (w : World) :
    Calls Try.prog 38 #[.string s] w fun e w' => e = .returned (.bool (nameB 97 122 s.data.toList)) ∧ w = w' := by
  by_cases h0 : 0 < s.size
  · have HC : Hid ((nmB s.data.toList && inB 97 122 s[0].toNat) = nameB 97 122 s.data.toList) := con_of_nm s.data.toList (by simpa using h0)
    cases hn : nmB s.data.toList
    · rw [hn] at HC
      go_enter Try.func38, Try.ntmps38
      go_wp2_with fail
      refine (name_any _ _).mono ?_
      rintro e w1 ⟨rfl, rfl⟩
      go_wp2_with fail
      go_ret
      exact ⟨by rw [← HC.out]; rfl, rfl⟩
    · rw [hn] at HC
      go_enter Try.func38, Try.ntmps38
      go_wp2_with fail
      refine (name_any _ _).mono ?_
      rintro e w1 ⟨rfl, rfl⟩
      go_wp2_with fail
      refine (small_any _ _).mono ?_
      rintro e w1 ⟨rfl, rfl⟩
      go_wp2_with fail
      go_ret
      exact ⟨by rw [← HC.out]; rfl, rfl⟩
  · have e : s.data.toList = [] := List.eq_nil_of_length_eq_zero (by have : s.data.toList.length = s.size := by simp
                                                                     omega)
    have hn : nmB s.data.toList = false := by rw [e]; rfl
    have HR : Hid (nameB 97 122 s.data.toList = false) := by unfold Hid; rw [e]; rfl
    clear e
    go_enter Try.func38, Try.ntmps38
    go_wp2_with fail
    refine (name_any _ _).mono ?_
    rintro e w1 ⟨rfl, rfl⟩
    go_wp2_with fail
    go_ret
    exact ⟨by rw [HR.out]; rfl, rfl⟩

set_option maxHeartbeats 400000 in
theorem args_any (s : ByteArray) (w : World) (hs : s.size ≤ maxLen) :
    Calls Try.prog 39 #[.string s] w fun e w' => e = .returned (.bool (argsB s.data.toList)) ∧ w = w' := by
  unfold maxLen at hs
  have HL : Hid (s.data.toList.length = s.size) := by unfold Hid; simp
  go_enter Try.func39, Try.ntmps39
  go_wp2_with fail
  go_loop [3] (fun i => ∃ k : Nat, k ≤ s.size ∧ i = .int .i64 k ∧ Hid (((s.data.toList.take k).all fun c => argB c.toNat) = true)) (fun i => s.size - (intOf i).toNat)
  case atStart => exact ⟨0, Nat.zero_le _, rfl, Lib.hid (by simp)⟩
  case round =>
    obtain ⟨k, hk, rfl, hr⟩ := hrel
    by_cases hlt : k < s.size
    · have HT := Lib.hid (take_snoc s k hlt)
      have HA : Hid (argB s[k].toNat = (((s[k].toNat : Int) == 43) || ((s[k].toNat : Int) == 45) || ((s[k].toNat : Int) == 61))) := rfl
      cases hg : argB s[k].toNat
      · have HF : Hid (argsB s.data.toList = false) := by
          unfold Hid argsB
          rw [Bool.and_eq_false_iff]
          right
          rw [← List.take_append_drop (k + 1) s.data.toList, HT.out]
          simp [hg]
        have hA := HA.out
        rw [hg] at hA
        simp only [Bool.false_eq, Bool.or_eq_false_iff] at hA
        obtain ⟨⟨a1, a2⟩, a3⟩ := hA
        have b1 : ((s[k].toNat : Int) != 43) = true := by rw [bne, a1]; rfl
        have b2 : ((s[k].toNat : Int) != 45) = true := by rw [bne, a2]; rfl
        have b3 : ((s[k].toNat : Int) != 61) = true := by rw [bne, a3]; rfl
        clear hg
        go_wp2_with fail
        go_ret
        exact ⟨by rw [HF.out]; rfl, rfl⟩
      · have HF : Hid (((s.data.toList.take (k + 1)).all fun c => argB c.toNat) = true) := by
          unfold Hid
          rw [HT.out, all_take_snoc, hr.out, hg]; rfl
        have hA := HA.out
        rw [hg] at hA
        have hA3 : (s[k].toNat : Int) = 43 ∨ (s[k].toNat : Int) = 45 ∨ (s[k].toNat : Int) = 61 := by
          simpa [or_assoc] using hA.symm
        clear hA hg
        rcases hA3 with a | a | a
        all_goals
          go_wp2_with fail
          go_round
          case rel => exact ⟨k + 1, by omega, by go_num, HF⟩
          case measure => simp [intOf]; omega
    · have HF : Hid (argsB s.data.toList = decide ((s.size : Int) ≤ 8)) := by
        have h := hr.out
        rw [List.take_of_length_le (by simp; omega)] at h
        unfold Hid argsB
        rw [h, HL.out, Bool.and_true, Bool.eq_iff_iff]
        simp only [decide_eq_true_eq]
        omega
      go_wp2_with fail
      go_ret
      exact ⟨by rw [HF.out]; rfl, rfl⟩

set_option maxHeartbeats 400000 in
theorem refFind_any (A : Option Addr) (n c : Nat) (l : List Sig) (t : ByteArray) (w : World) (hn : n = l.length) (hr : Row w w.heap.size A l) (hl : l.length ≤ maxLen) :
    Calls Try.prog 25 #[.slice A n c, .string t] w fun e w' => e = .returned (.int .i64 (findI t l 0)) ∧ w = w' := by
  subst hn
  unfold maxLen at hl
  go_enter Try.func25, Try.ntmps25
  go_wp2_with fail
  go_loop [5] (fun i => ∃ k : Nat, k ≤ l.length ∧ i = .int .i64 k ∧ Hid (findI t l 0 = findI t (l.drop k) k)) (fun i => l.length - (intOf i).toNat)
  case atStart => exact ⟨0, Nat.zero_le _, rfl, Lib.hid (by simp)⟩
  case round =>
    obtain ⟨k, hk, rfl, HF⟩ := hrel
    by_cases hlt : k < l.length
    · obtain ⟨ad, rfl, hb, c0, c1⟩ := hr.at_ hlt
      have HS := Lib.hid (findI_at t l k hlt)
      clear hr c1
      cases he : eqS l[k].1 t
      · have HS' : Hid (findI t (l.drop k) k = findI t (l.drop (k + 1)) (k + 1)) := by have := HS.out; rw [he] at this; exact this
        have he' : (l[k].1.toList == t.toList) = false := he
        clear he
        go_wp2_with fail
        go_round
        case rel => exact ⟨k + 1, by omega, by go_num, Lib.hid (HF.out.trans HS'.out)⟩
        case measure => simp [intOf]; omega
      · have HS' : Hid (findI t (l.drop k) k = k) := by have := HS.out; rw [he] at this; exact this
        have he' : (l[k].1.toList == t.toList) = true := he
        clear he
        go_wp2_with fail
        go_ret
        exact ⟨by rw [HF.out, HS'.out]; rfl, rfl⟩
    · have HS := Lib.hid (findI_end t l k (by omega))
      go_wp2_with fail
      go_ret
      exact ⟨by rw [HF.out, HS.out]; rfl, rfl⟩

/-! ### what is found of a row's own name -/
theorem findI_le (t : ByteArray) : ∀ (l : List Sig) (k j : Nat) (h : j < l.length), l[j].1 = t → (k : Int) ≤ findI t l k ∧ findI t l k ≤ k + j
  | s :: l, k, 0, _, e => by
    have e' : s.1 = t := e
    rw [findI, if_pos ((eqS_iff _ _).2 e')]
    omega
  | s :: l, k, j + 1, h, e => by
    rw [findI]
    split
    · omega
    · have := findI_le t l (k + 1) j (by simpa using h) (by simpa using e)
      omega

/-- the texts of a row are of a size that can be -/
def Sized (l : List Sig) : Prop := ∀ s ∈ l, s.1.size ≤ maxLen ∧ s.2.size ≤ maxLen

def refRightG (L : List Sig) : List Sig → Nat → Bool
  | [], _ => true
  | s :: l, k => (conB s.1 && partsB s.2 && !decide (findI s.1 L 0 < (k : Int))) && refRightG L l (k + 1)
theorem refRightG_at (L l : List Sig) (k : Nat) (h : k < l.length) : refRightG L (l.drop k) k = ((conB l[k].1 && partsB l[k].2 && !decide (findI l[k].1 L 0 < (k : Int))) && refRightG L (l.drop (k + 1)) (k + 1)) := by
  rw [List.drop_eq_getElem_cons h]; rfl
theorem refRightG_end (L l : List Sig) (k : Nat) (h : l.length ≤ k) : refRightG L (l.drop k) k = true := by
  rw [List.drop_eq_nil_of_le h]; rfl
theorem refRightG_eq (l : List Sig) : ∀ (d k : Nat), d = l.length - k → refRightG l (l.drop k) k = rightG l (l.drop k) k := by
  intro d
  induction d with
  | zero => intro k hk; rw [refRightG_end l l k (by omega), rightG_end l l k (by omega)]
  | succ d ih =>
    intro k hk
    have hlt : k < l.length := by omega
    rw [refRightG_at l l k hlt, rightG_at l l k hlt, ih (k + 1) (by omega)]
    have hf := findI_le l[k].1 l 0 k hlt rfl
    have e : (!decide (findI l[k].1 l 0 < (k : Int))) = (findI l[k].1 l 0 == (k : Int)) := by
      rw [Bool.eq_iff_iff]; simp only [Bool.not_eq_true', decide_eq_false_iff_not, beq_iff_eq]; omega
    rw [e]

set_option maxHeartbeats 400000 in
theorem refRight_any (A : Option Addr) (n c : Nat) (l : List Sig) (w : World) (hn : n = l.length) (hr : Row w w.heap.size A l) (hl : l.length ≤ maxLen) (hs : Sized l) :
    Calls Try.prog 22 #[.slice A n c] w fun e w' => e = .returned (.bool (rightB l)) ∧ w = w' := by
  subst hn
  have hl' := hl
  unfold maxLen at hl'
  have HE : Hid (refRightG l l 0 = rightG l l 0) := refRightG_eq l l.length 0 (by omega)
  have HRow := Lib.hid hr
  clear hr
  go_enter Try.func22, Try.ntmps22
  go_wp2_with fail
  go_loop [3, 4] (fun i _ => ∃ k : Nat, k ≤ l.length ∧ i = .int .i64 k ∧ Hid (refRightG l l 0 = refRightG l (l.drop k) k)) (fun i _ => l.length - (intOf i).toNat)
  case atStart => exact ⟨0, Nat.zero_le _, rfl, Lib.hid (by simp)⟩
  case round =>
    obtain ⟨k, hk, rfl, HF⟩ := hrel
    by_cases hlt : k < l.length
    · obtain ⟨ad, rfl, hb, c0, c1⟩ := HRow.out.at_ hlt
      have HS := Lib.hid (refRightG_at l l k hlt)
      have hsk := (hs l[k] (List.getElem_mem hlt)).2
      have HB : Hid (refRightG l (l.drop k) k = false → rightB l = false) := fun h => by
        unfold rightB
        rw [← HE.out, HF.out, h, Bool.and_false]
      cases h1 : nameB 97 122 l[k].1.data.toList
      · have HS' : Hid (rightB l = false) := HB.out (by rw [HS.out, conB, h1]; rfl)
        go_wp2_with fail
        refine (con_any _ _).mono ?_
        rintro e w1 ⟨rfl, rfl⟩
        go_wp2_with fail
        go_ret
        exact ⟨by rw [HS'.out]; rfl, rfl⟩
      · cases h2 : argsB l[k].2.data.toList
        · have HS' : Hid (rightB l = false) := HB.out (by rw [HS.out, conB, partsB, h1, h2]; rfl)
          go_wp2_with fail
          refine (con_any _ _).mono ?_
          rintro e w1 ⟨rfl, rfl⟩
          go_wp2_with fail
          refine (args_any _ _ hsk).mono ?_
          rintro e w1 ⟨rfl, rfl⟩
          go_wp2_with fail
          go_ret
          exact ⟨by rw [HS'.out]; rfl, rfl⟩
        · by_cases h3 : findI l[k].1 l 0 < (k : Int)
          · have HS' : Hid (rightB l = false) := HB.out (by rw [HS.out, conB, partsB, h1, h2, decide_eq_true h3]; rfl)
            go_wp2_with fail
            refine (con_any _ _).mono ?_
            rintro e w1 ⟨rfl, rfl⟩
            go_wp2_with fail
            refine (args_any _ _ hsk).mono ?_
            rintro e w1 ⟨rfl, rfl⟩
            go_wp2_with fail
            refine (refFind_any _ _ _ l _ _ rfl HRow.out hl).mono ?_
            rintro e w1 ⟨rfl, rfl⟩
            go_wp2_with fail
            go_ret
            exact ⟨by rw [HS'.out]; rfl, rfl⟩
          · have HS' : Hid (refRightG l (l.drop k) k = refRightG l (l.drop (k + 1)) (k + 1)) := by unfold Hid; rw [HS.out, conB, partsB, h1, h2, decide_eq_false h3]; rfl
            go_wp2_with fail
            refine (con_any _ _).mono ?_
            rintro e w1 ⟨rfl, rfl⟩
            go_wp2_with fail
            refine (args_any _ _ hsk).mono ?_
            rintro e w1 ⟨rfl, rfl⟩
            go_wp2_with fail
            refine (refFind_any _ _ _ l _ _ rfl HRow.out hl).mono ?_
            rintro e w1 ⟨rfl, rfl⟩
            go_wp2_with fail
            go_round
            case rel => exact ⟨k + 1, by omega, by go_num, Lib.hid (HF.out.trans HS'.out)⟩
            case measure => simp [intOf]; omega
    · have HS : Hid (rightB l = decide ((l.length : Int) ≤ 64)) := by
        unfold Hid rightB
        rw [← HE.out, HF.out, refRightG_end l l k (by omega), Bool.and_true, Bool.eq_iff_iff]
        simp only [decide_eq_true_eq]
        omega
      go_wp2_with fail
      go_ret
      exact ⟨by rw [HS.out]; rfl, rfl⟩
end Go.Proofs.Ytmohedkhbjeapaa.Sg
