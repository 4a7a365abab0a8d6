/-
  What the proofs lean on, part 3 of 20.
-/
import Derived.Test.YtnifmfdlocgefaaGreatPa
import Derived.Test.YtnifmfdlocgefaaGreatPb
import Derived.Maps.Own
import Derived.Maps.OwnOps
import Derived.Maps.OwnSet
import Derived.Deep.RegionHeld3
namespace Go.Proofs.YtnifmfdlocgefaaGreat.Sg
open Go.RowKit Kit

def inB (lo hi c : Int) : Bool := decide (lo ≤ c) && decide (c ≤ hi)

def goesB (c : Int) : Bool := inB 97 122 c || inB 65 90 c || inB 48 57 c || (c == 95)

theorem take_snoc (s : ByteArray) (k : Nat) (h : k < s.size) : s.data.toList.take (k + 1) = s.data.toList.take k ++ [s[k]] := by
  rw [List.take_succ_eq_append_getElem (by simpa using h)]; rfl

def restB (l : List UInt8) : Bool := (l.drop 1).all fun c => goesB c.toNat
/-- a name whose first byte lies from lo to hi -/
def nameB (lo hi : Int) (l : List UInt8) : Bool :=
  match l with
  | [] => false
  | c :: _ => decide (l.length ≤ 20) && inB lo hi c.toNat && restB l

def argB (c : Int) : Bool := c == 43 || c == 45 || c == 61
def argsB (l : List UInt8) : Bool := decide (l.length ≤ 8) && l.all fun c => argB c.toNat
theorem all_take_snoc {f : UInt8 → Bool} {l : List UInt8} {c : UInt8} : (l ++ [c]).all f = (l.all f && f c) := by simp

abbrev Sig := ByteArray × ByteArray
/-- a slice value that reads as a row of constructors, below block B -/
def Row (w : World) (B : Nat) (A : Option Addr) (l : List Sig) : Prop :=
  0 < l.length → ∃ ad, A = some ad ∧ ad.block < B ∧ ∀ i s, l[i]? = some s → w.cell? (ad.add (i * 2)) = some (.string s.1) ∧ w.cell? ⟨(ad.add (i * 2)).block, (ad.add (i * 2)).off + 1, none⟩ = some (.string s.2)

theorem add_block (a : Addr) (n : Nat) : (a.add n).block = a.block := by unfold Addr.add; split <;> rfl
theorem add_succ (a : Addr) (n : Nat) : a.add (n + 1) = ⟨(a.add n).block, (a.add n).off + 1, none⟩ := by
  unfold Addr.add
  by_cases h : n = 0 <;> simp [h, Nat.add_assoc]

theorem Row.keep {w w' : World} {B : Nat} {A : Option Addr} {l : List Sig} (h : Row w B A l) (hb : Below B w w') : Row w' B A l := fun h0 => by
  obtain ⟨ad, e, hlt, hc⟩ := h h0
  refine ⟨ad, e, hlt, fun i s hs => ?_⟩
  obtain ⟨c0, c1⟩ := hc i s hs
  exact ⟨(hb.cell (by rw [add_block]; exact hlt)).trans c0, (hb.cell (p := ⟨(ad.add (i * 2)).block, (ad.add (i * 2)).off + 1, none⟩) (by show (ad.add (i * 2)).block < B; rw [add_block]; exact hlt)).trans c1⟩
theorem Row.q {w w' : World} {B : Nat} {A : Option Addr} {l : List Sig} (h : Row w B A l) (hB : B ≤ w.heap.size) (hb : Q w w') : Row w' B A l := h.keep (hb.mono hB)
theorem Row.more {w : World} {B B' : Nat} {A : Option Addr} {l : List Sig} (h : Row w B A l) (hB : B ≤ B') : Row w B' A l := fun h0 => by
  obtain ⟨ad, e, hlt, hc⟩ := h h0
  exact ⟨ad, e, by omega, hc⟩
/-- the cells of one constructor -/
theorem Row.at_ {w : World} {B : Nat} {A : Option Addr} {l : List Sig} (h : Row w B A l) {k : Nat} (hk : k < l.length) :
    ∃ ad, A = some ad ∧ ad.block < B ∧ w.cell? (ad.add (k * 2)) = some (.string l[k].1) ∧ w.cell? ⟨(ad.add (k * 2)).block, (ad.add (k * 2)).off + 1, none⟩ = some (.string l[k].2) := by
  obtain ⟨ad, e, hlt, hc⟩ := h (by omega)
  obtain ⟨c0, c1⟩ := hc k l[k] (List.getElem?_eq_getElem hk)
  exact ⟨ad, e, hlt, c0, c1⟩

/-- two texts are the same -/
def eqS (a b : ByteArray) : Bool := a.toList == b.toList
theorem eqS_iff (a b : ByteArray) : eqS a b = true ↔ a = b := by
  unfold eqS
  rw [beq_iff_eq, ByteArray.toList_eq, ByteArray.toList_eq]
  exact ⟨fun h => ByteArray.ext (Array.toList_inj.mp h), fun h => by rw [h]⟩
/-- where the first constructor of a name stands, from k on; -1 -/
def findI (t : ByteArray) : List Sig → Nat → Int
  | [], _ => -1
  | s :: l, k => if eqS s.1 t then k else findI t l (k + 1)
theorem findI_at (t : ByteArray) (l : List Sig) (k : Nat) (h : k < l.length) : findI t (l.drop k) k = if eqS l[k].1 t then (k : Int) else findI t (l.drop (k + 1)) (k + 1) := by
  rw [List.drop_eq_getElem_cons h]; rfl
theorem findI_end (t : ByteArray) (l : List Sig) (k : Nat) (h : l.length ≤ k) : findI t (l.drop k) k = -1 := by
  rw [List.drop_eq_nil_of_le h]; rfl

def conB (t : ByteArray) : Bool := nameB 97 122 t.data.toList
def partsB (t : ByteArray) : Bool := argsB t.data.toList

def rightG (L : List Sig) : List Sig → Nat → Bool
  | [], _ => true
  | s :: l, k => (conB s.1 && partsB s.2 && (findI s.1 L 0 == (k : Int))) && rightG L l (k + 1)
def rightB (l : List Sig) : Bool := decide (l.length ≤ 64) && rightG l l 0
theorem rightG_at (L l : List Sig) (k : Nat) (h : k < l.length) : rightG L (l.drop k) k = ((conB l[k].1 && partsB l[k].2 && (findI l[k].1 L 0 == (k : Int))) && rightG L (l.drop (k + 1)) (k + 1)) := by
  rw [List.drop_eq_getElem_cons h]; rfl
theorem rightG_end (L l : List Sig) (k : Nat) (h : l.length ≤ k) : rightG L (l.drop k) k = true := by
  rw [List.drop_eq_nil_of_le h]; rfl

theorem small_any (c : Int) (w : World) :
    Calls Tryz.prog 182 #[.int .u8 c] w fun e w' => e = .returned (.bool (inB 97 122 c)) ∧ w = w' := by
  by_cases h : 97 ≤ c
  · have d : decide (97 ≤ c) = true := by simpa using h
    have HR : Hid (inB 97 122 c = decide (c ≤ 122)) := by unfold Hid inB; rw [d]; rfl
    go_enter Tryz.func182, Tryz.ntmps182
    go_wp2_with fail
    go_ret
    exact ⟨by rw [HR.out]; rfl, rfl⟩
  · have d : decide (97 ≤ c) = false := by simpa using h
    have HR : Hid (inB 97 122 c = false) := by unfold Hid inB; rw [d]; rfl
    go_enter Tryz.func182, Tryz.ntmps182
    go_wp2_with fail
    go_ret
    exact ⟨by rw [HR.out]; rfl, rfl⟩
theorem big_any (c : Int) (w : World) :
    Calls Tryz.prog 261 #[.int .u8 c] w fun e w' => e = .returned (.bool (inB 65 90 c)) ∧ w = w' := by
  by_cases h : 65 ≤ c
  · have d : decide (65 ≤ c) = true := by simpa using h
    have HR : Hid (inB 65 90 c = decide (c ≤ 90)) := by unfold Hid inB; rw [d]; rfl
    go_enter Tryz.func261, Tryz.ntmps261
    go_wp2_with fail
    go_ret
    exact ⟨by rw [HR.out]; rfl, rfl⟩
  · have d : decide (65 ≤ c) = false := by simpa using h
    have HR : Hid (inB 65 90 c = false) := by unfold Hid inB; rw [d]; rfl
    go_enter Tryz.func261, Tryz.ntmps261
    go_wp2_with fail
    go_ret
    exact ⟨by rw [HR.out]; rfl, rfl⟩

def letB (c : Int) : Bool := inB 97 122 c || inB 65 90 c
def figB (c : Int) : Bool := inB 48 57 c || (c == 95)
def okAt (k : Nat) (c : Int) : Bool := letB c || (!(k == 0) && figB c)
def okFrom : List UInt8 → Nat → Bool
  | [], _ => true
  | c :: l, k => okAt k c.toNat && okFrom l (k + 1)
def nmB (l : List UInt8) : Bool := decide (1 ≤ l.length) && decide (l.length ≤ 20) && okFrom l 0
theorem okFrom_at (l : List UInt8) (k : Nat) (h : k < l.length) : okFrom (l.drop k) k = (okAt k l[k].toNat && okFrom (l.drop (k + 1)) (k + 1)) := by
  rw [List.drop_eq_getElem_cons h]; rfl
theorem okFrom_end (l : List UInt8) (k : Nat) (h : l.length ≤ k) : okFrom (l.drop k) k = true := by
  rw [List.drop_eq_nil_of_le h]; rfl
theorem okFrom_rest : ∀ (l : List UInt8) (k : Nat), okFrom l (k + 1) = l.all fun c => goesB c.toNat
  | [], _ => rfl
  | c :: l, k => by
    show (okAt (k + 1) c.toNat && okFrom l (k + 2)) = (goesB c.toNat && _)
    rw [okFrom_rest l (k + 1)]
    have e : okAt (k + 1) c.toNat = goesB c.toNat := by
      unfold okAt letB figB goesB
      generalize inB 97 122 c.toNat = p, inB 65 90 c.toNat = q, inB 48 57 c.toNat = r, ((c.toNat : Int) == 95) = t
      rw [show ((k + 1) == 0) = false by simp]
      revert p q r t; decide
    rw [e]
theorem con_of_nm (l : List UInt8) (h : 0 < l.length) : (nmB l && inB 97 122 (l[0].toNat : Int)) = nameB 97 122 l := by
  match l, h with
  | c :: l, _ =>
    simp only [List.getElem_cons_zero]
    show (decide (1 ≤ (c :: l).length) && decide ((c :: l).length ≤ 20) && (okAt 0 c.toNat && okFrom l (0 + 1)) && _) = (decide ((c :: l).length ≤ 20) && inB 97 122 c.toNat && l.all _)
    rw [okFrom_rest l 0, decide_eq_true (by simp : 1 ≤ (c :: l).length)]
    unfold okAt letB
    generalize inB 97 122 c.toNat = p, inB 65 90 c.toNat = q, (l.all fun c => goesB c.toNat) = r, decide ((c :: l).length ≤ 20) = t, figB c.toNat = u
    revert p q r t u; decide

set_option maxRecDepth 100000 in
set_option maxHeartbeats 400000 in
theorem name_any (s : ByteArray) (w : World) :
    Calls Tryz.prog 181 #[.string s] w fun e w' => e = .returned (.bool (nmB s.data.toList)) ∧ w = w' := by
  have hlen : s.data.toList.length = s.size := by simp
  by_cases h0 : s.size < 1
  · have HR : Hid (nmB s.data.toList = false) := by unfold Hid nmB; rw [hlen, decide_eq_false (by omega)]; rfl
    clear hlen
    go_enter Tryz.func181, Tryz.ntmps181
    go_wp2_with fail
    go_ret
    exact ⟨by rw [HR.out]; rfl, rfl⟩
  · by_cases h20 : 20 < s.size
    · have HR : Hid (nmB s.data.toList = false) := by unfold Hid nmB; rw [hlen, decide_eq_false (by omega : ¬ s.size ≤ 20), Bool.and_false]; rfl
      clear hlen
      go_enter Tryz.func181, Tryz.ntmps181
      go_wp2_with fail
      go_ret
      exact ⟨by rw [HR.out]; rfl, rfl⟩
    · have HR : Hid (nmB s.data.toList = okFrom s.data.toList 0) := by unfold Hid nmB; rw [hlen, decide_eq_true (by omega), decide_eq_true (by omega)]; rfl
      have d1 : decide ((s.size : Int) < 1) = false := by simp; omega
      have d2 : decide (20 < (s.size : Int)) = false := by simp; omega
      clear hlen
      go_enter Tryz.func181, Tryz.ntmps181
      go_wp2_with fail
      go_loop [3, 4, 5] (fun i _ _ => ∃ k : Nat, k ≤ s.size ∧ i = .int .i64 k ∧ Hid (okFrom s.data.toList 0 = okFrom (s.data.toList.drop k) k)) (fun i _ _ => s.size - (intOf i).toNat)
      case atStart => exact ⟨0, Nat.zero_le _, rfl, Lib.hid (by simp)⟩
      case round =>
        obtain ⟨k, hk, rfl, HF⟩ := hrel
        by_cases hlt : k < s.size
        · have HS : Hid (okFrom (s.data.toList.drop k) k = (okAt k s[k].toNat && okFrom (s.data.toList.drop (k + 1)) (k + 1))) := okFrom_at s.data.toList k (by simpa using hlt)
          go_upto_region 6 with fail
          go_cut [4] (fun f wx => f = .bool (figB s[k].toNat) ∧ wx = w)
          case first =>
            go_wp2_with fail
            all_goals go_meet
            all_goals
              refine ⟨congrArg Value.bool ?_, rfl⟩
              rw [Bool.eq_iff_iff]
              simp only [figB, inB, Bool.or_eq_true, Bool.and_eq_true, decide_eq_true_eq, beq_iff_eq]
              first | omega | (refine ⟨fun _ => ?_, fun _ => trivial⟩; omega)
          case rest =>
            obtain ⟨rfl, rfl⟩ := hcut
            have HO : Hid (okAt k s[k].toNat = (inB 97 122 s[k].toNat || inB 65 90 s[k].toNat || (!(k == 0) && figB s[k].toNat))) := rfl
            cases hp : inB 97 122 s[k].toNat
            · cases hq : inB 65 90 s[k].toNat
              · by_cases hk0 : k = 0
                · have HS' : Hid (okFrom (s.data.toList.drop k) k = false) := by unfold Hid; rw [HS.out, HO.out, hp, hq, show (k == 0) = true by simpa using hk0]; rfl
                  have hk0' : ((k : Int) == 0) = true := by simpa using hk0
                  clear hk0
                  go_wp2_with (first | (go_at_call 182; refine (small_any _ _).mono ?_; rintro e w' ⟨rfl, rfl⟩) | (go_at_call 261; refine (big_any _ _).mono ?_; rintro e w' ⟨rfl, rfl⟩))
                  go_ret
                  exact ⟨by rw [HR.out, HF.out, HS'.out]; rfl, rfl⟩
                · have hk0' : ((k : Int) == 0) = false := by simpa using hk0
                  have hk1 : (k == 0) = false := by simpa using hk0
                  cases hf : figB s[k].toNat
                  · have HS' : Hid (okFrom (s.data.toList.drop k) k = false) := by unfold Hid; rw [HS.out, HO.out, hp, hq, hk1, hf]; rfl
                    clear hk0 hk1
                    go_wp2_with (first | (go_at_call 182; refine (small_any _ _).mono ?_; rintro e w' ⟨rfl, rfl⟩) | (go_at_call 261; refine (big_any _ _).mono ?_; rintro e w' ⟨rfl, rfl⟩))
                    go_ret
                    exact ⟨by rw [HR.out, HF.out, HS'.out]; rfl, rfl⟩
                  · have HS' : Hid (okFrom (s.data.toList.drop k) k = okFrom (s.data.toList.drop (k + 1)) (k + 1)) := by unfold Hid; rw [HS.out, HO.out, hp, hq, hk1, hf]; rfl
                    clear hk0 hk1
                    go_wp2_with (first | (go_at_call 182; refine (small_any _ _).mono ?_; rintro e w' ⟨rfl, rfl⟩) | (go_at_call 261; refine (big_any _ _).mono ?_; rintro e w' ⟨rfl, rfl⟩))
                    go_round
                    case rel => exact ⟨k + 1, by omega, by go_num, Lib.hid (HF.out.trans HS'.out)⟩
                    case measure => simp [intOf]; omega
              · have HS' : Hid (okFrom (s.data.toList.drop k) k = okFrom (s.data.toList.drop (k + 1)) (k + 1)) := by unfold Hid; rw [HS.out, HO.out, hp, hq]; rfl
                go_wp2_with (first | (go_at_call 182; refine (small_any _ _).mono ?_; rintro e w' ⟨rfl, rfl⟩) | (go_at_call 261; refine (big_any _ _).mono ?_; rintro e w' ⟨rfl, rfl⟩))
                go_round
                case rel => exact ⟨k + 1, by omega, by go_num, Lib.hid (HF.out.trans HS'.out)⟩
                case measure => simp [intOf]; omega
            · have HS' : Hid (okFrom (s.data.toList.drop k) k = okFrom (s.data.toList.drop (k + 1)) (k + 1)) := by unfold Hid; rw [HS.out, HO.out, hp]; rfl
              go_wp2_with (first | (go_at_call 182; refine (small_any _ _).mono ?_; rintro e w' ⟨rfl, rfl⟩) | (go_at_call 261; refine (big_any _ _).mono ?_; rintro e w' ⟨rfl, rfl⟩))
              go_round
              case rel => exact ⟨k + 1, by omega, by go_num, Lib.hid (HF.out.trans HS'.out)⟩
              case measure => simp [intOf]; omega
        · have HS := Lib.hid (okFrom_end s.data.toList k (by simp; omega))
          go_wp2_with fail
          go_ret
          exact ⟨by rw [HR.out, HF.out, HS.out]; rfl, rfl⟩

set_option maxRecDepth 100000 in
set_option maxHeartbeats 400000 in
theorem con_any (s : ByteArray) (w : World) :
    Calls Tryz.prog 120 #[.string s] w fun e w' => e = .returned (.bool (nameB 97 122 s.data.toList)) ∧ w = w' := by
  by_cases h0 : 0 < s.size
  · have HC : Hid ((nmB s.data.toList && inB 97 122 s[0].toNat) = nameB 97 122 s.data.toList) := con_of_nm s.data.toList (by simpa using h0)
    cases hn : nmB s.data.toList
    · rw [hn] at HC
      go_enter Tryz.func120, Tryz.ntmps120
      go_wp2_with fail
      refine (name_any _ _).mono ?_
      rintro e w1 ⟨rfl, rfl⟩
      go_wp2_with fail
      go_ret
      exact ⟨by rw [← HC.out]; rfl, rfl⟩
    · rw [hn] at HC
      go_enter Tryz.func120, Tryz.ntmps120
      go_wp2_with fail
      refine (name_any _ _).mono ?_
      rintro e w1 ⟨rfl, rfl⟩
      go_wp2_with fail
      refine (small_any _ _).mono ?_
      rintro e w1 ⟨rfl, rfl⟩
      go_wp2_with fail
      go_ret
      exact ⟨by rw [← HC.out]; rfl, rfl⟩
  · have e : s.data.toList = [] := List.eq_nil_of_length_eq_zero (by have : s.data.toList.length = s.size := by simp
                                                                     omega)
    have hn : nmB s.data.toList = false := by rw [e]; rfl
    have HR : Hid (nameB 97 122 s.data.toList = false) := by unfold Hid; rw [e]; rfl
    clear e
    go_enter Tryz.func120, Tryz.ntmps120
    go_wp2_with fail
    refine (name_any _ _).mono ?_
    rintro e w1 ⟨rfl, rfl⟩
    go_wp2_with fail
    go_ret
    exact ⟨by rw [HR.out]; rfl, rfl⟩

set_option maxRecDepth 100000 in
set_option maxHeartbeats 400000 in
theorem args_any (s : ByteArray) (w : World) (hs : s.size ≤ maxLen) :
    Calls Tryz.prog 121 #[.string s] w fun e w' => e = .returned (.bool (argsB s.data.toList)) ∧ w = w' := by
  unfold maxLen at hs
  have HL : Hid (s.data.toList.length = s.size) := by unfold Hid; simp
  go_enter Tryz.func121, Tryz.ntmps121
  go_wp2_with fail
  go_loop [3] (fun i => ∃ k : Nat, k ≤ s.size ∧ i = .int .i64 k ∧ Hid (((s.data.toList.take k).all fun c => argB c.toNat) = true)) (fun i => s.size - (intOf i).toNat)
  case atStart => exact ⟨0, Nat.zero_le _, rfl, Lib.hid (by simp)⟩
  case round =>
    obtain ⟨k, hk, rfl, hr⟩ := hrel
    by_cases hlt : k < s.size
    · have HT := Lib.hid (take_snoc s k hlt)
      have HA : Hid (argB s[k].toNat = (((s[k].toNat : Int) == 43) || ((s[k].toNat : Int) == 45) || ((s[k].toNat : Int) == 61))) := rfl
      cases hg : argB s[k].toNat
      · have HF : Hid (argsB s.data.toList = false) := by
          unfold Hid argsB
          rw [Bool.and_eq_false_iff]
          right
          rw [← List.take_append_drop (k + 1) s.data.toList, HT.out]
          simp [hg]
        have hA := HA.out
        rw [hg] at hA
        simp only [Bool.false_eq, Bool.or_eq_false_iff] at hA
        obtain ⟨⟨a1, a2⟩, a3⟩ := hA
        have b1 : ((s[k].toNat : Int) != 43) = true := by rw [bne, a1]; rfl
        have b2 : ((s[k].toNat : Int) != 45) = true := by rw [bne, a2]; rfl
        have b3 : ((s[k].toNat : Int) != 61) = true := by rw [bne, a3]; rfl
        clear hg
        go_wp2_with fail
        go_ret
        exact ⟨by rw [HF.out]; rfl, rfl⟩
      · have HF : Hid (((s.data.toList.take (k + 1)).all fun c => argB c.toNat) = true) := by
          unfold Hid
          rw [HT.out, all_take_snoc, hr.out, hg]; rfl
        have hA := HA.out
        rw [hg] at hA
        have hA3 : (s[k].toNat : Int) = 43 ∨ (s[k].toNat : Int) = 45 ∨ (s[k].toNat : Int) = 61 := by
          simpa [or_assoc] using hA.symm
        clear hA hg
        rcases hA3 with a | a | a
        all_goals
          go_wp2_with fail
          go_round
          case rel => exact ⟨k + 1, by omega, by go_num, HF⟩
          case measure => simp [intOf]; omega
    · have HF : Hid (argsB s.data.toList = decide ((s.size : Int) ≤ 8)) := by
        have h := hr.out
        rw [List.take_of_length_le (by simp; omega)] at h
        unfold Hid argsB
        rw [h, HL.out, Bool.and_true, Bool.eq_iff_iff]
        simp only [decide_eq_true_eq]
        omega
      go_wp2_with fail
      go_ret
      exact ⟨by rw [HF.out]; rfl, rfl⟩

set_option maxRecDepth 100000 in
set_option maxHeartbeats 400000 in
theorem refFind_any (A : Option Addr) (n c : Nat) (l : List Sig) (t : ByteArray) (w : World) (hn : n = l.length) (hr : Row w w.heap.size A l) (hl : l.length ≤ maxLen) :
    Calls Tryz.prog 122 #[.slice A n c, .string t] w fun e w' => e = .returned (.int .i64 (findI t l 0)) ∧ w = w' := by
  subst hn
  unfold maxLen at hl
  go_enter Tryz.func122, Tryz.ntmps122
  go_wp2_with fail
  go_loop [5] (fun i => ∃ k : Nat, k ≤ l.length ∧ i = .int .i64 k ∧ Hid (findI t l 0 = findI t (l.drop k) k)) (fun i => l.length - (intOf i).toNat)
  case atStart => exact ⟨0, Nat.zero_le _, rfl, Lib.hid (by simp)⟩
  case round =>
    obtain ⟨k, hk, rfl, HF⟩ := hrel
    by_cases hlt : k < l.length
    · obtain ⟨ad, rfl, hb, c0, c1⟩ := hr.at_ hlt
      have HS := Lib.hid (findI_at t l k hlt)
      clear hr c1
      cases he : eqS l[k].1 t
      · have HS' : Hid (findI t (l.drop k) k = findI t (l.drop (k + 1)) (k + 1)) := by have := HS.out; rw [he] at this; exact this
        have he' : (l[k].1.toList == t.toList) = false := he
        clear he
        go_wp2_with fail
        go_round
        case rel => exact ⟨k + 1, by omega, by go_num, Lib.hid (HF.out.trans HS'.out)⟩
        case measure => simp [intOf]; omega
      · have HS' : Hid (findI t (l.drop k) k = k) := by have := HS.out; rw [he] at this; exact this
        have he' : (l[k].1.toList == t.toList) = true := he
        clear he
        go_wp2_with fail
        go_ret
        exact ⟨by rw [HF.out, HS'.out]; rfl, rfl⟩
    · have HS := Lib.hid (findI_end t l k (by omega))
      go_wp2_with fail
      go_ret
      exact ⟨by rw [HF.out, HS.out]; rfl, rfl⟩

theorem findI_le (t : ByteArray) : ∀ (l : List Sig) (k j : Nat) (h : j < l.length), l[j].1 = t → (k : Int) ≤ findI t l k ∧ findI t l k ≤ k + j
  | s :: l, k, 0, _, e => by
    have e' : s.1 = t := e
    rw [findI, if_pos ((eqS_iff _ _).2 e')]
    omega
  | s :: l, k, j + 1, h, e => by
    rw [findI]
    split
    · omega
    · have := findI_le t l (k + 1) j (by simpa using h) (by simpa using e)
      omega

/-- the texts of a row are of a size that can be -/
def Sized (l : List Sig) : Prop := ∀ s ∈ l, s.1.size ≤ maxLen ∧ s.2.size ≤ maxLen

def refRightG (L : List Sig) : List Sig → Nat → Bool
  | [], _ => true
  | s :: l, k => (conB s.1 && partsB s.2 && !decide (findI s.1 L 0 < (k : Int))) && refRightG L l (k + 1)
theorem refRightG_at (L l : List Sig) (k : Nat) (h : k < l.length) : refRightG L (l.drop k) k = ((conB l[k].1 && partsB l[k].2 && !decide (findI l[k].1 L 0 < (k : Int))) && refRightG L (l.drop (k + 1)) (k + 1)) := by
  rw [List.drop_eq_getElem_cons h]; rfl
theorem refRightG_end (L l : List Sig) (k : Nat) (h : l.length ≤ k) : refRightG L (l.drop k) k = true := by
  rw [List.drop_eq_nil_of_le h]; rfl
theorem refRightG_eq (l : List Sig) : ∀ (d k : Nat), d = l.length - k → refRightG l (l.drop k) k = rightG l (l.drop k) k := by
  intro d
  induction d with
  | zero => intro k hk; rw [refRightG_end l l k (by omega), rightG_end l l k (by omega)]
  | succ d ih =>
    intro k hk
    have hlt : k < l.length := by omega
    rw [refRightG_at l l k hlt, rightG_at l l k hlt, ih (k + 1) (by omega)]
    have hf := findI_le l[k].1 l 0 k hlt rfl
    have e : (!decide (findI l[k].1 l 0 < (k : Int))) = (findI l[k].1 l 0 == (k : Int)) := by
      rw [Bool.eq_iff_iff]; simp only [Bool.not_eq_true', decide_eq_false_iff_not, beq_iff_eq]; omega
    rw [e]

set_option maxRecDepth 100000 in
set_option maxHeartbeats 400000 in
theorem refRight_any (A : Option Addr) (n c : Nat) (l : List Sig) (w : World) (hn : n = l.length) (hr : Row w w.heap.size A l) (hl : l.length ≤ maxLen) (hs : Sized l) :
    Calls Tryz.prog 57 #[.slice A n c] w fun e w' => e = .returned (.bool (rightB l)) ∧ w = w' := by
  subst hn
  have hl' := hl
  unfold maxLen at hl'
  have HE : Hid (refRightG l l 0 = rightG l l 0) := refRightG_eq l l.length 0 (by omega)
  have HRow := Lib.hid hr
  clear hr
  go_enter Tryz.func57, Tryz.ntmps57
  go_wp2_with fail
  go_loop [3, 4] (fun i _ => ∃ k : Nat, k ≤ l.length ∧ i = .int .i64 k ∧ Hid (refRightG l l 0 = refRightG l (l.drop k) k)) (fun i _ => l.length - (intOf i).toNat)
  case atStart => exact ⟨0, Nat.zero_le _, rfl, Lib.hid (by simp)⟩
  case round =>
    obtain ⟨k, hk, rfl, HF⟩ := hrel
    by_cases hlt : k < l.length
    · obtain ⟨ad, rfl, hb, c0, c1⟩ := HRow.out.at_ hlt
      have HS := Lib.hid (refRightG_at l l k hlt)
      have hsk := (hs l[k] (List.getElem_mem hlt)).2
      have HB : Hid (refRightG l (l.drop k) k = false → rightB l = false) := fun h => by
        unfold rightB
        rw [← HE.out, HF.out, h, Bool.and_false]
      cases h1 : nameB 97 122 l[k].1.data.toList
      · have HS' : Hid (rightB l = false) := HB.out (by rw [HS.out, conB, h1]; rfl)
        go_wp2_with fail
        refine (con_any _ _).mono ?_
        rintro e w1 ⟨rfl, rfl⟩
        go_wp2_with fail
        go_ret
        exact ⟨by rw [HS'.out]; rfl, rfl⟩
      · cases h2 : argsB l[k].2.data.toList
        · have HS' : Hid (rightB l = false) := HB.out (by rw [HS.out, conB, partsB, h1, h2]; rfl)
          go_wp2_with fail
          refine (con_any _ _).mono ?_
          rintro e w1 ⟨rfl, rfl⟩
          go_wp2_with fail
          refine (args_any _ _ hsk).mono ?_
          rintro e w1 ⟨rfl, rfl⟩
          go_wp2_with fail
          go_ret
          exact ⟨by rw [HS'.out]; rfl, rfl⟩
        · by_cases h3 : findI l[k].1 l 0 < (k : Int)
          · have HS' : Hid (rightB l = false) := HB.out (by rw [HS.out, conB, partsB, h1, h2, decide_eq_true h3]; rfl)
            go_wp2_with fail
            refine (con_any _ _).mono ?_
            rintro e w1 ⟨rfl, rfl⟩
            go_wp2_with fail
            refine (args_any _ _ hsk).mono ?_
            rintro e w1 ⟨rfl, rfl⟩
            go_wp2_with fail
            refine (refFind_any _ _ _ l _ _ rfl HRow.out hl).mono ?_
            rintro e w1 ⟨rfl, rfl⟩
            go_wp2_with fail
            go_ret
            exact ⟨by rw [HS'.out]; rfl, rfl⟩
          · have HS' : Hid (refRightG l (l.drop k) k = refRightG l (l.drop (k + 1)) (k + 1)) := by unfold Hid; rw [HS.out, conB, partsB, h1, h2, decide_eq_false h3]; rfl
            go_wp2_with fail
            refine (con_any _ _).mono ?_
            rintro e w1 ⟨rfl, rfl⟩
            go_wp2_with fail
            refine (args_any _ _ hsk).mono ?_
            rintro e w1 ⟨rfl, rfl⟩
            go_wp2_with fail
            refine (refFind_any _ _ _ l _ _ rfl HRow.out hl).mono ?_
            rintro e w1 ⟨rfl, rfl⟩
            go_wp2_with fail
            go_round
            case rel => exact ⟨k + 1, by omega, by go_num, Lib.hid (HF.out.trans HS'.out)⟩
            case measure => simp [intOf]; omega
    · have HS : Hid (rightB l = decide ((l.length : Int) ≤ 64)) := by
        unfold Hid rightB
        rw [← HE.out, HF.out, refRightG_end l l k (by omega), Bool.and_true, Bool.eq_iff_iff]
        simp only [decide_eq_true_eq]
        omega
      go_wp2_with fail
      go_ret
      exact ⟨by rw [HS.out]; rfl, rfl⟩
end Go.Proofs.YtnifmfdlocgefaaGreat.Sg

namespace Go.Proofs.YtnifmfdlocgefaaGreat.Tm
open Go.RowKit Kit Hs

def isPl (x n : Int) : Bool := decide (0 ≤ x) && decide (x < n)
theorem isPl_iff (x n : Int) : isPl x n = true ↔ 0 ≤ x ∧ x < n := by unfold isPl; simp
theorem isPl_no {x n : Int} (h : isPl x n = false) : ¬ (0 ≤ x ∧ x < n) := fun e => by rw [(isPl_iff x n).2 e] at h; cases h

theorem isPlace_any (x n : Int) (w : World) : Calls Tryz.prog 300 #[.int .i64 x, .int .i64 n] w fun e w' => e = .returned (.bool (isPl x n)) ∧ w = w' := by
  by_cases h : 0 ≤ x
  · have HR : Hid (isPl x n = decide (x < n)) := by unfold Hid isPl; rw [decide_eq_true h]; rfl
    have d : decide (0 ≤ x) = true := decide_eq_true h
    go_enter Tryz.func300, Tryz.ntmps300
    go_wp2_with fail
    go_ret
    exact ⟨by rw [HR.out]; rfl, rfl⟩
  · have HR : Hid (isPl x n = false) := by unfold Hid isPl; rw [decide_eq_false h]; rfl
    have d : decide (0 ≤ x) = false := decide_eq_false h
    clear h
    go_enter Tryz.func300, Tryz.ntmps300
    go_wp2_with fail
    go_ret
    exact ⟨by rw [HR.out]; rfl, rfl⟩

def KeyPost (key : List Int) (w : World) (e : Ending) (w' : World) : Prop :=
  ∃ g c, e = .returned (.slice (some ⟨g, 0, none⟩) key.length c) ∧ w.heap.size ≤ g ∧ key.length ≤ c ∧ OwnI w' g key ∧ Q w w'
theorem own_block {w : World} {base g : Nat} {e : TypeId} {cs : Array Value} (hb : base ≤ g) (hg : w.heap[g]? = some (.cells cs e (0, 0))) (hm : cs.size ≤ maxLen) : w.ownsRow base e 1 (.slice (some ⟨g, 0, none⟩) cs.size cs.size) cs.size cs.toList :=
  ⟨by simp, .inr ⟨g, cs.size, cs, rfl, hb, hg, Nat.le_refl _, hm, by simp, by simp only [Nat.mul_one]; exact List.take_of_length_le (by rw [Array.length_toList]; exact Nat.le_refl _)⟩⟩
theorem key_close {w w' : World} {v : Value} {m : Nat} {ys xs key : List Int} {cs : List Value} (hc : cs = cellsI ys ++ cellsI xs) (hk : key = ys ++ xs) (h0 : 0 < key.length) (hm : m = key.length) (h : w'.ownsRow w.heap.size 3 1 v m cs) (q : Q w w') : KeyPost key w (.returned v) w' := by
  subst hm hc
  obtain ⟨A, c, rfl, hle, hA⟩ := own_form h
  obtain ⟨g, rfl, hg, _, _⟩ := hA h0
  refine ⟨g, c, rfl, hg, hle, ?_, q⟩
  have e : cellsI ys ++ cellsI xs = cellsI key := by rw [hk]; simp [cellsI]
  rw [e] at h
  exact OwnI.of_own h

set_option maxRecDepth 100000 in
set_option maxHeartbeats 1000000 in
theorem key_any (E : Option Addr) (n ce : Nat) (k s p : Int) (xs : List Int) (w : World) (hn : n = xs.length) (he : Ints w w.heap.size E xs) (hl : xs.length ≤ 100000) :
    Calls Tryz.prog 192 #[.agg #[.int .i64 k, .int .i64 s, .int .i64 p, .slice E n ce]] w (KeyPost (k :: s :: p :: xs) w) := by
  subst hn
  obtain ⟨i0, hi, hz0, hz1, hz2⟩ := info_parts intInfo
  have Hi := Lib.hid hi
  have Hz0 := Lib.hid hz0
  have Hz1 := Lib.hid hz1
  have Hz2 := Lib.hid hz2
  have q0 := ((Q.refl w).alloc (Obj.cells #[.int .i64 k, .int .i64 s, .int .i64 p, .slice E xs.length ce] 175)).alloc (Obj.cells #[.int .i64 k, .int .i64 s, .int .i64 p] 3)
  have Hs := Lib.hid (he.srcB.keep q0)
  have ho := own_block (base := w.heap.size) (e := 3) (cs := #[.int .i64 k, .int .i64 s, .int .i64 p]) (Nat.le_succ _) (heap_two_new w (Obj.cells #[.int .i64 k, .int .i64 s, .int .i64 p, .slice E xs.length ce] 175) (Obj.cells #[.int .i64 k, .int .i64 s, .int .i64 p] 3)) (by unfold maxLen; simp)
  have Ho := Lib.hid ho
  clear hi hz0 hz1 hz2 he ho
  go_enter Tryz.func192, Tryz.ntmps192
  go_wp2_with (at_builtin; refine wpList_append_src _ rfl (.tmp 9) (.tmp 11) _ rfl w.heap.size 3 i0 _ 1 8 Tryz.underlying24 Hi.out Hz0.out Hz1.out Hz2.out rfl (by omega) (.slice (some ⟨w.heap.size + 1, 0, none⟩) 3 3) 3 [.int .i64 k, .int .i64 s, .int .i64 p] rfl Ho.out E xs.length ce (cellsI xs) rfl (by simp [cellsI]) Hs.out.src (cellsI_one xs) (by unfold maxLen; omega) (by omega) (by simp; omega) ?_; intro v' w' own' gr' _)
  have q2 : Q w w' := q0.grown gr' (by simp; omega) (by simp [Value.ownBlock])
  have Ho' := Lib.hid own'
  clear own' gr'
  go_wp2_with fail
  go_ret
  exact key_close (ys := [k, s, p]) (xs := xs) rfl rfl (by simp) (by simp; omega) Ho'.out q2

end Go.Proofs.YtnifmfdlocgefaaGreat.Tm

namespace Go.Proofs.YtnifmfdlocgefaaGreat.Tm
open Go.RowKit Kit Hs

structure Tm where
  k : Int
  s : Int
  p : Int
  xs : List Int
def Tm.none : Tm := ⟨0, 0, 0, []⟩
def Tm.key (t : Tm) : List Int := t.k :: t.s :: t.p :: t.xs
def ofKey (key : List Int) : Tm := ⟨key[0]?.getD 0, key[1]?.getD 0, key[2]?.getD 0, key.drop 3⟩
/-- the term at a place; none, if there is none -/
def termAt (ks : List (List Int)) (id : Int) : Option Tm := if isPl id ks.length && decide (3 ≤ (ks[id.toNat]?.getD []).length) then some (ofKey (ks[id.toNat]?.getD [])) else none
theorem termAt_at {ks : List (List Int)} {i : Nat} (h : i < ks.length) (h3 : 3 ≤ ks[i].length) : termAt ks (i : Int) = some (ofKey ks[i]) := by
  have e : isPl (i : Int) ks.length = true := (isPl_iff _ _).2 (by omega)
  simp [termAt, e, h, h3]
theorem termAt_short {ks : List (List Int)} {i : Nat} (h : i < ks.length) (h3 : ks[i].length < 3) : termAt ks (i : Int) = none := by
  have e : isPl (i : Int) ks.length = true := (isPl_iff _ _).2 (by omega)
  have : ¬ 3 ≤ ks[i].length := by omega
  simp [termAt, h, this]
theorem termAt_out {ks : List (List Int)} {id : Int} (h : isPl id ks.length = false) : termAt ks id = none := by simp [termAt, h]
def LookPost (ks : List (List Int)) (id : Int) (w : World) (e : Ending) (w' : World) : Prop :=
  ∃ A n c, e = .returned (.tuple #[.agg #[.int .i64 ((termAt ks id).getD .none).k, .int .i64 ((termAt ks id).getD .none).s, .int .i64 ((termAt ks id).getD .none).p, .slice A n c], .bool (termAt ks id).isSome]) ∧ n = ((termAt ks id).getD .none).xs.length ∧ Ints w' w'.heap.size A ((termAt ks id).getD .none).xs ∧ Q w w'
theorem look_none {ks : List (List Int)} {id : Int} {w w' : World} (h : termAt ks id = none) (q : Q w w') : LookPost ks id w (.returned (.tuple #[.agg #[.int .i64 0, .int .i64 0, .int .i64 0, .slice none 0 0], .bool false])) w' := by
  unfold LookPost
  rw [h]
  exact ⟨none, 0, 0, rfl, rfl, fun h => absurd h (by simp [Tm.none]), q⟩

theorem look_some {ks : List (List Int)} {id : Int} {w w' : World} {t : Tm} {A : Option Addr} {n c : Nat} (h : termAt ks id = some t) (hn : n = t.xs.length) (hA : Ints w' w'.heap.size A t.xs) (q : Q w w') : LookPost ks id w (.returned (.tuple #[.agg #[.int .i64 t.k, .int .i64 t.s, .int .i64 t.p, .slice A n c], .bool true])) w' := by
  unfold LookPost
  rw [h]
  exact ⟨A, n, c, rfl, hn, hA, q⟩
theorem termAt_key {ks : List (List Int)} {i : Nat} (h : i < ks.length) (h3 : 3 ≤ ks[i].length) : termAt ks (i : Int) = some ⟨ks[i][0], ks[i][1], ks[i][2], ks[i].drop 3⟩ := by
  rw [termAt_at h h3]
  have h0 : 0 < ks[i].length := by omega
  have h1 : 1 < ks[i].length := by omega
  have h2 : 2 < ks[i].length := by omega
  simp [ofKey, h0, h1, h2]
theorem drop_ints {w w' : World} {ad : Addr} {key : List Int} (hc : ∀ (i : Nat) (x : Int), key[i]? = some x → w.cell? (ad.add i) = some (.int .i64 x)) (hb : ad.block < w.heap.size) (q : Q w w') (n : Nat) : Ints w' w'.heap.size (some (ad.add n)) (key.drop n) := fun _ => by
  refine ⟨_, rfl, by rw [add_block]; exact Nat.lt_of_lt_of_le hb q.size, fun i x hx => ?_⟩
  rw [List.getElem?_drop] at hx
  rw [Addr.add_add, q.cell (by rw [add_block]; exact hb)]
  exact hc _ x hx
set_option maxRecDepth 100000 in
set_option maxHeartbeats 1000000 in
theorem look_any (A S : Option Addr) (n c m d : Nat) (ks : List (List Int)) (id : Int) (w : World) (hn : n = ks.length) (hk : Keys w w.heap.size A ks) :
    Calls Tryz.prog 233 #[.agg #[.slice A n c, .slice S m d], .int .i64 id] w (LookPost ks id w) := by
  subst hn
  have q0 := ((Q.refl w).alloc (Obj.cells #[Value.slice A ks.length c, Value.slice S m d] 26)).alloc (Obj.cells #[.int .i64 0, .int .i64 0, .int .i64 0, .slice none 0 0] 175)
  cases hp : isPl id ks.length
  · have HT := Lib.hid (termAt_out hp)
    clear hk
    go_enter Tryz.func233, Tryz.ntmps233
    go_wp2_with (go_at_call 300; refine (isPlace_any _ _ _).mono ?_; rintro e w' ⟨rfl, rfl⟩)
    refine bodyPost_ret (v := .tuple #[.agg #[.int .i64 0, .int .i64 0, .int .i64 0, .slice none 0 0], .bool false]) (by simp [results, Tryz.f233, go_sem]) rfl (look_none HT.out q0)
  · obtain ⟨h0, h1⟩ := (isPl_iff _ _).1 hp
    obtain ⟨i, rfl⟩ := Int.eq_ofNat_of_zero_le h0
    have hlt : i < ks.length := by omega
    obtain ⟨ad, rfl, hb, a, c1, hle, c0, hi⟩ := hk.at_ hlt
    by_cases h3 : 3 ≤ ks[i].length
    · have HT := Lib.hid (termAt_key hlt h3)
      obtain ⟨ad1, rfl, hb1, hc1⟩ := hi (by omega)
      have k0 := hc1 0 _ (List.getElem?_eq_getElem (show 0 < ks[i].length by omega))
      have k1 := hc1 1 _ (List.getElem?_eq_getElem (show 1 < ks[i].length by omega))
      have k2 := hc1 2 _ (List.getElem?_eq_getElem (show 2 < ks[i].length by omega))
      have hsl := slice_l (some ad1) ks[i].length c1 3 h3
      have d3 : decide (ks[i].length < 3) = false := decide_eq_false (by omega)
      have Hc := Lib.hid hc1
      have c0' := (q0.cell (p := ad.add i) (by rw [add_block]; exact hb)).trans c0
      have k0' : ((w.alloc (Obj.cells #[Value.slice (some ad) ks.length c, Value.slice S m d] 26)).alloc (Obj.cells #[.int .i64 0, .int .i64 0, .int .i64 0, .slice none 0 0] 175)).cell? ad1 = some (.int .i64 ks[i][0]) := (q0.cell (by exact hb1)).trans (by simpa [Addr.add] using k0)
      have k1' : ((w.alloc (Obj.cells #[Value.slice (some ad) ks.length c, Value.slice S m d] 26)).alloc (Obj.cells #[.int .i64 0, .int .i64 0, .int .i64 0, .slice none 0 0] 175)).cell? ⟨ad1.block, ad1.off + 1, none⟩ = some (.int .i64 ks[i][1]) := (q0.cell (by exact hb1)).trans (by simpa [Addr.add] using k1)
      have k2' : ((w.alloc (Obj.cells #[Value.slice (some ad) ks.length c, Value.slice S m d] 26)).alloc (Obj.cells #[.int .i64 0, .int .i64 0, .int .i64 0, .slice none 0 0] 175)).cell? ⟨ad1.block, ad1.off + 2, none⟩ = some (.int .i64 ks[i][2]) := (q0.cell (by exact hb1)).trans (by simpa [Addr.add] using k2)
      clear hk hc1 hi c0 k0 k1 k2
      go_enter Tryz.func233, Tryz.ntmps233
      go_wp2_with (go_at_call 300; refine (isPlace_any _ _ _).mono ?_; rintro e w' ⟨rfl, rfl⟩)
      go_region
      all_goals go_wp2_with fail
      · rename_i h
        have qW : Q w (((w.alloc (Obj.cells #[Value.slice (some ad) ks.length c, Value.slice S m d] 26)).alloc (Obj.cells #[.int .i64 ks[i][0], .int .i64 ks[i][1], .int .i64 ks[i][2], .slice (some ad1) (ks[i].length - 3) 0] 175)).drew) := (((Q.refl w).alloc _).alloc _).drew
        refine bodyPost_ret (v := .tuple #[.agg #[.int .i64 ks[i][0], .int .i64 ks[i][1], .int .i64 ks[i][2], .slice (some ad1) (ks[i].length - 3) 0], .bool true]) (by simp [results, Tryz.f233, go_sem]) rfl (look_some HT.out (by simp) (fun h0 => ?_) qW)
        rw [List.length_drop] at h0
        omega
      · have qW : Q w (((w.alloc (Obj.cells #[Value.slice (some ad) ks.length c, Value.slice S m d] 26)).alloc (Obj.cells #[.int .i64 ks[i][0], .int .i64 ks[i][1], .int .i64 ks[i][2], .slice (some ⟨ad1.block, ad1.off + 3, none⟩) (ks[i].length - 3) (c1 - 3)] 175)).drew) := (((Q.refl w).alloc _).alloc _).drew
        refine bodyPost_ret (v := .tuple #[.agg #[.int .i64 ks[i][0], .int .i64 ks[i][1], .int .i64 ks[i][2], .slice (some ⟨ad1.block, ad1.off + 3, none⟩) (ks[i].length - 3) (c1 - 3)], .bool true]) (by simp [results, Tryz.f233, go_sem]) rfl (look_some HT.out (by simp) ?_ qW)
        exact drop_ints Hc.out hb1 qW 3
    · have HT := Lib.hid (termAt_short hlt (Nat.lt_of_not_le h3))
      have d3 : decide (ks[i].length < 3) = true := decide_eq_true (by omega)
      have c0' := (q0.cell (p := ad.add i) (by rw [add_block]; exact hb)).trans c0
      clear hk hi c0
      go_enter Tryz.func233, Tryz.ntmps233
      go_wp2_with (go_at_call 300; refine (isPlace_any _ _ _).mono ?_; rintro e w' ⟨rfl, rfl⟩)
      exact bodyPost_ret (v := .tuple #[.agg #[.int .i64 0, .int .i64 0, .int .i64 0, .slice none 0 0], .bool false]) (by simp [results, Tryz.f233, go_sem]) rfl (look_none HT.out q0)
end Go.Proofs.YtnifmfdlocgefaaGreat.Tm

namespace Go.Proofs.YtnifmfdlocgefaaGreat.Tm
open Go.RowKit Kit Hs

set_option maxRecDepth 100000 in
set_option maxHeartbeats 1000000 in
theorem refOf_any (A S : Option Addr) (n c m d : Nat) (ks : List (List Int)) (id : Int) (w : World) (hn : n = ks.length) (hk : Keys w w.heap.size A ks) :
    Calls Tryz.prog 123 #[.agg #[.slice A n c, .slice S m d], .int .i64 id] w (LookPost ks id w) := by
  subst hn
  have q0 := ((Q.refl w).alloc (Obj.cells #[Value.slice A ks.length c, Value.slice S m d] 26)).alloc (Obj.cells #[.int .i64 0, .int .i64 0, .int .i64 0, .slice none 0 0] 175)
  cases hp : isPl id ks.length
  · have HT := Lib.hid (termAt_out hp)
    have hno := isPl_no hp
    clear hk
    by_cases h0 : id < 0
    · have d0 : decide (id < 0) = true := decide_eq_true h0
      clear hno h0
      go_enter Tryz.func123, Tryz.ntmps123
      go_wp2_with fail
      exact bodyPost_ret (v := .tuple #[.agg #[.int .i64 0, .int .i64 0, .int .i64 0, .slice none 0 0], .bool false]) (by simp [results, Tryz.f123, go_sem]) rfl (look_none HT.out q0)
    · have d0 : decide (id < 0) = false := decide_eq_false h0
      have d1 : decide ((ks.length : Int) ≤ id) = true := decide_eq_true (by omega)
      clear hno h0
      go_enter Tryz.func123, Tryz.ntmps123
      go_wp2_with fail
      exact bodyPost_ret (v := .tuple #[.agg #[.int .i64 0, .int .i64 0, .int .i64 0, .slice none 0 0], .bool false]) (by simp [results, Tryz.f123, go_sem]) rfl (look_none HT.out q0)
  · obtain ⟨h0, h1⟩ := (isPl_iff _ _).1 hp
    obtain ⟨i, rfl⟩ := Int.eq_ofNat_of_zero_le h0
    have hlt : i < ks.length := by omega
    obtain ⟨ad, rfl, hb, a, c1, hle, c0, hi⟩ := hk.at_ hlt
    by_cases h3 : 3 ≤ ks[i].length
    · have HT := Lib.hid (termAt_key hlt h3)
      obtain ⟨ad1, rfl, hb1, hc1⟩ := hi (by omega)
      have k0 := hc1 0 _ (List.getElem?_eq_getElem (show 0 < ks[i].length by omega))
      have k1 := hc1 1 _ (List.getElem?_eq_getElem (show 1 < ks[i].length by omega))
      have k2 := hc1 2 _ (List.getElem?_eq_getElem (show 2 < ks[i].length by omega))
      have hsl := slice_l (some ad1) ks[i].length c1 3 h3
      have d3 : decide (ks[i].length < 3) = false := decide_eq_false (by omega)
      have Hc := Lib.hid hc1
      have c0' := (q0.cell (p := ad.add i) (by rw [add_block]; exact hb)).trans c0
      have k0' : ((w.alloc (Obj.cells #[Value.slice (some ad) ks.length c, Value.slice S m d] 26)).alloc (Obj.cells #[.int .i64 0, .int .i64 0, .int .i64 0, .slice none 0 0] 175)).cell? ad1 = some (.int .i64 ks[i][0]) := (q0.cell (by exact hb1)).trans (by simpa [Addr.add] using k0)
      have k1' : ((w.alloc (Obj.cells #[Value.slice (some ad) ks.length c, Value.slice S m d] 26)).alloc (Obj.cells #[.int .i64 0, .int .i64 0, .int .i64 0, .slice none 0 0] 175)).cell? ⟨ad1.block, ad1.off + 1, none⟩ = some (.int .i64 ks[i][1]) := (q0.cell (by exact hb1)).trans (by simpa [Addr.add] using k1)
      have k2' : ((w.alloc (Obj.cells #[Value.slice (some ad) ks.length c, Value.slice S m d] 26)).alloc (Obj.cells #[.int .i64 0, .int .i64 0, .int .i64 0, .slice none 0 0] 175)).cell? ⟨ad1.block, ad1.off + 2, none⟩ = some (.int .i64 ks[i][2]) := (q0.cell (by exact hb1)).trans (by simpa [Addr.add] using k2)
      clear hk hc1 hi c0 k0 k1 k2
      go_enter Tryz.func123, Tryz.ntmps123
      go_wp2_with fail
      go_region
      all_goals go_wp2_with fail
      · rename_i h
        have qW : Q w (((w.alloc (Obj.cells #[Value.slice (some ad) ks.length c, Value.slice S m d] 26)).alloc (Obj.cells #[.int .i64 ks[i][0], .int .i64 ks[i][1], .int .i64 ks[i][2], .slice (some ad1) (ks[i].length - 3) 0] 175)).drew) := (((Q.refl w).alloc _).alloc _).drew
        refine bodyPost_ret (v := .tuple #[.agg #[.int .i64 ks[i][0], .int .i64 ks[i][1], .int .i64 ks[i][2], .slice (some ad1) (ks[i].length - 3) 0], .bool true]) (by simp [results, Tryz.f123, go_sem]) rfl (look_some HT.out (by simp) (fun h0 => ?_) qW)
        rw [List.length_drop] at h0
        omega
      · have qW : Q w (((w.alloc (Obj.cells #[Value.slice (some ad) ks.length c, Value.slice S m d] 26)).alloc (Obj.cells #[.int .i64 ks[i][0], .int .i64 ks[i][1], .int .i64 ks[i][2], .slice (some ⟨ad1.block, ad1.off + 3, none⟩) (ks[i].length - 3) (c1 - 3)] 175)).drew) := (((Q.refl w).alloc _).alloc _).drew
        refine bodyPost_ret (v := .tuple #[.agg #[.int .i64 ks[i][0], .int .i64 ks[i][1], .int .i64 ks[i][2], .slice (some ⟨ad1.block, ad1.off + 3, none⟩) (ks[i].length - 3) (c1 - 3)], .bool true]) (by simp [results, Tryz.f123, go_sem]) rfl (look_some HT.out (by simp) ?_ qW)
        exact drop_ints Hc.out hb1 qW 3
    · have HT := Lib.hid (termAt_short hlt (Nat.lt_of_not_le h3))
      have d3 : decide (ks[i].length < 3) = true := decide_eq_true (by omega)
      have c0' := (q0.cell (p := ad.add i) (by rw [add_block]; exact hb)).trans c0
      clear hk hi c0
      go_enter Tryz.func123, Tryz.ntmps123
      go_wp2_with fail
      exact bodyPost_ret (v := .tuple #[.agg #[.int .i64 0, .int .i64 0, .int .i64 0, .slice none 0 0], .bool false]) (by simp [results, Tryz.f123, go_sem]) rfl (look_none HT.out q0)

/-- a term in a box -/
structure Box4 (W : World) (B : Nat) (a b c d : Value) : Prop where
  c0 : W.cell? ⟨B, 0, none⟩ = some a
  c1 : W.cell? ⟨B, 1, none⟩ = some b
  c2 : W.cell? ⟨B, 2, none⟩ = some c
  c3 : W.cell? ⟨B, 3, none⟩ = some d
  f0 : W.frozen? ⟨B, 0, none⟩ = false
  f1 : W.frozen? ⟨B, 1, none⟩ = false
  f2 : W.frozen? ⟨B, 2, none⟩ = false
  f3 : W.frozen? ⟨B, 3, none⟩ = false
  lt : B < W.heap.size
theorem Box4.q {W W' : World} {B : Nat} {a b c d : Value} (h : Box4 W B a b c d) (q : Q W W') : Box4 W' B a b c d :=
  ⟨(q.cell (p := ⟨B, 0, none⟩) h.lt).trans h.c0, (q.cell (p := ⟨B, 1, none⟩) h.lt).trans h.c1, (q.cell (p := ⟨B, 2, none⟩) h.lt).trans h.c2, (q.cell (p := ⟨B, 3, none⟩) h.lt).trans h.c3,
   (q.frozen (p := ⟨B, 0, none⟩) h.lt).trans h.f0, (q.frozen (p := ⟨B, 1, none⟩) h.lt).trans h.f1, (q.frozen (p := ⟨B, 2, none⟩) h.lt).trans h.f2, (q.frozen (p := ⟨B, 3, none⟩) h.lt).trans h.f3, Nat.lt_of_lt_of_le h.lt q.size⟩
theorem Box4.new (w : World) (a b c d : Value) (t : TypeId) : Box4 (w.alloc (.cells #[a, b, c, d] t)) w.heap.size a b c d := ⟨by simp, by simp, by simp, by simp, by simp, by simp, by simp, by simp, by simp⟩
theorem Box4.far {W : World} {B : Nat} {a b c d : Value} (h : Box4 W B a b c d) {g i : Nat} (hg : g ≠ B) (v : Value) : Box4 (W.setCell ⟨g, i, none⟩ v) B a b c d :=
  ⟨(World.cell?_setCell_far _ _ _ _ hg).trans h.c0, (World.cell?_setCell_far _ _ _ _ hg).trans h.c1, (World.cell?_setCell_far _ _ _ _ hg).trans h.c2, (World.cell?_setCell_far _ _ _ _ hg).trans h.c3,
   by rw [World.frozen?_setCell]; exact h.f0, by rw [World.frozen?_setCell]; exact h.f1, by rw [World.frozen?_setCell]; exact h.f2, by rw [World.frozen?_setCell]; exact h.f3, by have := h.lt; simpa [World.setCell] using this⟩
theorem setCell_ne {W : World} {B i j : Nat} {v u : Value} (h : i ≠ j) (hc : W.cell? ⟨B, j, none⟩ = some u) : (W.setCell ⟨B, i, none⟩ v).cell? ⟨B, j, none⟩ = some u := by
  have := World.cell?_setCell_other (w := W) (a := ⟨B, i, none⟩) (b := ⟨B, j, none⟩) (v := v) (by intro e; injection e with _ e; exact h e)
  exact this.trans hc
theorem setCell_eq {W : World} {B i : Nat} {v u : Value} (hc : W.cell? ⟨B, i, none⟩ = some u) : (W.setCell ⟨B, i, none⟩ v).cell? ⟨B, i, none⟩ = some v := World.cell?_setCell_same' _ _ _ (by rw [hc]; rfl)
theorem Box4.set3 {W : World} {B : Nat} {a b c d : Value} (h : Box4 W B a b c d) (v : Value) : Box4 (W.setCell ⟨B, 3, none⟩ v) B a b c v :=
  ⟨setCell_ne (by omega) h.c0, setCell_ne (by omega) h.c1, setCell_ne (by omega) h.c2, setCell_eq h.c3, by rw [World.frozen?_setCell]; exact h.f0, by rw [World.frozen?_setCell]; exact h.f1, by rw [World.frozen?_setCell]; exact h.f2, by rw [World.frozen?_setCell]; exact h.f3, by have := h.lt; simpa [World.setCell] using this⟩
theorem Box4.all {W : World} {B : Nat} {a b c d : Value} (h : Box4 W B a b c d) (x y z u : Value) : Box4 ((((W.setCell ⟨B, 0, none⟩ x).setCell ⟨B, 1, none⟩ y).setCell ⟨B, 2, none⟩ z).setCell ⟨B, 3, none⟩ u) B x y z u := by
  have l1 : B < (W.setCell ⟨B, 0, none⟩ x).heap.size := by have := h.lt; simpa [World.setCell] using this
  refine ⟨setCell_ne (by omega) (setCell_ne (by omega) (setCell_ne (by omega) (setCell_eq h.c0))), setCell_ne (by omega) (setCell_ne (by omega) (setCell_eq (setCell_ne (by omega) h.c1))),
    setCell_ne (by omega) (setCell_eq (setCell_ne (by omega) (setCell_ne (by omega) h.c2))), setCell_eq (setCell_ne (by omega) (setCell_ne (by omega) (setCell_ne (by omega) h.c3))), ?_, ?_, ?_, ?_, ?_⟩
  · simp only [World.frozen?_setCell]; exact h.f0
  · simp only [World.frozen?_setCell]; exact h.f1
  · simp only [World.frozen?_setCell]; exact h.f2
  · simp only [World.frozen?_setCell]; exact h.f3
  · have := h.lt; simpa [World.setCell] using this

set_option maxRecDepth 100000 in
set_option maxHeartbeats 1000000 in
theorem of_any (A S : Option Addr) (n c m d : Nat) (ks : List (List Int)) (id : Int) (w : World) (hn : n = ks.length) (hk : Keys w w.heap.size A ks) (hs : ∀ k ∈ ks, k.length ≤ 100000) :
    Calls Tryz.prog 167 #[.agg #[.slice A n c, .slice S m d], .int .i64 id] w (LookPost ks id w) := by
  subst hn
  have q0 := ((Q.refl w).alloc (Obj.cells #[Value.slice A ks.length c, Value.slice S m d] 26)).alloc (Obj.cells #[.int .i64 0, .int .i64 0, .int .i64 0, .slice none 0 0] 175)
  have Hk := Lib.hid ((hk.q (Nat.le_refl _) q0).more q0.size)
  have b4 := Box4.new (w.alloc (Obj.cells #[Value.slice A ks.length c, Value.slice S m d] 26)) (.int .i64 0) (.int .i64 0) (.int .i64 0) (.slice none 0 0) 175
  rw [World.size_alloc] at b4
  have HB := Lib.hid b4
  have HT : Hid (((termAt ks id).getD .none).xs.length ≤ 100000) := by
    unfold Hid termAt
    split
    · rename_i h
      simp only [Bool.and_eq_true, isPl_iff] at h
      have hi : id.toNat < ks.length := by omega
      have := hs _ (List.getElem_mem hi)
      simp [ofKey, hi]
      omega
    · simp [Tm.none]
  clear hk b4 hs
  go_enter Tryz.func167, Tryz.ntmps167
  go_wp2_with fail
  generalize (w.alloc (Obj.cells #[Value.slice A ks.length c, Value.slice S m d] 26)).alloc (Obj.cells #[.int .i64 0, .int .i64 0, .int .i64 0, .slice none 0 0] 175) = W0 at *
  refine (look_any _ _ _ _ _ _ ks id _ rfl Hk.out).mono ?_
  rintro e w1 ⟨A1, n1, c1, rfl, hn1, hA1, q1⟩
  obtain ⟨t, ht⟩ : ∃ t, (termAt ks id).getD .none = t := ⟨_, rfl⟩
  obtain ⟨b, hb⟩ : ∃ b, (termAt ks id).isSome = b := ⟨_, rfl⟩
  have HP : Hid (∀ (A : Option Addr) (n c : Nat) (w' : World), n = t.xs.length → Ints w' w'.heap.size A t.xs → Q w w' → LookPost ks id w (.returned (.tuple #[.agg #[.int .i64 t.k, .int .i64 t.s, .int .i64 t.p, .slice A n c], .bool b])) w') := fun A n c w' h1 h3 h4 => ⟨A, n, c, by rw [ht, hb], by rw [ht]; exact h1, by rw [ht]; exact h3, h4⟩
  rw [ht] at hn1 hA1 HT ⊢
  rw [hb]
  clear ht hb
  have HA := Lib.hid hA1
  have Hn := Lib.hid hn1
  have HB1 := Lib.hid (HB.out.q q1)
  have q12 := (Q.refl w1).alloc (Obj.cells #[.int .i64 t.k, .int .i64 t.s, .int .i64 t.p, .slice A1 n1 c1] 175)
  have HB2 := Lib.hid (HB1.out.q q12)
  have HX := Lib.hid (Box4.new w1 (.int .i64 t.k) (.int .i64 t.s) (.int .i64 t.p) (.slice A1 n1 c1) 175)
  clear hA1 hn1
  go_wp2_with fail
  generalize w1.alloc (Obj.cells #[.int .i64 t.k, .int .i64 t.s, .int .i64 t.p, .slice A1 n1 c1] 175) = W2 at *
  refine (clone_any _ _ _ t.xs _ Hn.out ((HA.out.q (Nat.le_refl _) q12).more q12.size) HT.out).mono ?_
  rintro e w3 ⟨A3, c3, rfl, hA3, q3⟩
  have HA3 := Lib.hid hA3
  have HX3 := Lib.hid (HX.out.q q3)
  have HB3 := Lib.hid (HB2.out.q q3)
  clear hA3
  have x0 := HX3.out.c0
  have x1 := HX3.out.c1
  have x2 := HX3.out.c2
  have x3 := HX3.out.c3
  have y3 := HX3.out.f3
  have r0 := HB3.out.c0
  have r1 := HB3.out.c1
  have r2 := HB3.out.c2
  have r3 := HB3.out.c3
  have f0 := HB3.out.f0
  have f1 := HB3.out.f1
  have f2 := HB3.out.f2
  have f3 := HB3.out.f3
  have hne : w.heap.size + 1 < w1.heap.size := HB1.out.lt
  go_wp2_with fail
  have hb4 := ((HB3.out.far (g := w1.heap.size) (i := 3) (by omega) (.slice A3 t.xs.length c3)).all (.int .i64 t.k) (.int .i64 t.s) (.int .i64 t.p) (.slice A3 t.xs.length c3))
  have g0 := hb4.c0
  have g1 := hb4.c1
  have g2 := hb4.c2
  have g3 := hb4.c3
  have qa := ((q0.trans q1).trans q12).trans q3
  have qW := ((((qa.setCell (p := ⟨w1.heap.size, 3, none⟩) (by show _ ≤ w1.heap.size; omega) (.slice A3 t.xs.length c3)).setCell (p := ⟨w.heap.size + 1, 0, none⟩) (by show _ ≤ w.heap.size + 1; omega) (.int .i64 t.k)).setCell (p := ⟨w.heap.size + 1, 1, none⟩) (by show _ ≤ w.heap.size + 1; omega) (.int .i64 t.s)).setCell (p := ⟨w.heap.size + 1, 2, none⟩) (by show _ ≤ w.heap.size + 1; omega) (.int .i64 t.p)).setCell (p := ⟨w.heap.size + 1, 3, none⟩) (by show _ ≤ w.heap.size + 1; omega) (.slice A3 t.xs.length c3)
  refine bodyPost_ret (v := .tuple #[.agg #[.int .i64 t.k, .int .i64 t.s, .int .i64 t.p, .slice A3 t.xs.length c3], .bool b]) (by simp [results, Tryz.f167, go_sem, g0, g1, g2, g3]) rfl (HP.out _ _ _ _ rfl ?_ qW)
  have h2 := q12.size
  have hl2 : w1.heap.size < W2.heap.size := HX.out.lt
  intro h0
  obtain ⟨g, e, hg, ho⟩ := HA3.out h0
  refine ⟨_, e, by simp only [World.setCell]; have := ho.1; simpa [World.setCell] using this, fun i x hx => ?_⟩
  have hh := (ho.2 i x hx).1
  rw [add_zero_head]
  rw [World.cell?_setCell_far _ _ _ _ (by show w.heap.size + 1 ≠ g; omega), World.cell?_setCell_far _ _ _ _ (by show w.heap.size + 1 ≠ g; omega), World.cell?_setCell_far _ _ _ _ (by show w.heap.size + 1 ≠ g; omega), World.cell?_setCell_far _ _ _ _ (by show w.heap.size + 1 ≠ g; omega), World.cell?_setCell_far _ _ _ _ (by show w1.heap.size ≠ g; omega)]
  exact hh
end Go.Proofs.YtnifmfdlocgefaaGreat.Tm

namespace Go.Proofs.YtnifmfdlocgefaaGreat.Tm
open Go.RowKit Kit Hs Go.Maps

def isKindB (k : Int) : Bool := (k == 0) || (k == 1) || (k == 2) || (k == 4) || (k == 5) || (k == 6)
def partsN (k : Int) : Int := if k = 4 then 2 else if k = 5 then 2 else if k = 6 then 1 else 0
def Wf (k : Int) : Prop := -9223372036854775808 ≤ k ∧ k ≤ 9223372036854775807
theorem Wf.lit {k : Int} (h : Wf k) : (Lit.int .i64 k).wf = true := WalkArith.wf_i64 h

theorem lawI : Keyed Tryz.prog 3 := int_keyed Tryz.underlying3
theorem zeroI (w : World) : (zeroValue 3).run Tryz.prog w = .ok (.int .i64 0) w := by kernel_rfl
def D6 : DataW Unit := ((((((.map [] : DataW Unit).put (.int .i64 0) (.lit (.int .i64 0))).put (.int .i64 1) (.lit (.int .i64 0))).put (.int .i64 2) (.lit (.int .i64 0))).put (.int .i64 4) (.lit (.int .i64 2))).put (.int .i64 5) (.lit (.int .i64 2))).put (.int .i64 6) (.lit (.int .i64 1))
end Go.Proofs.YtnifmfdlocgefaaGreat.Tm

namespace Go.Proofs.YtnifmfdlocgefaaGreat.Tm
open Go.RowKit Kit Hs

/-- how many parts a constructor has -/
def arity (l : List Sg.Sig) (s : Int) : Int := ((l[s.toNat]?.getD (ByteArray.empty, ByteArray.empty)).2.size : Int)
def standB (l : List Sg.Sig) (t : Tm) : Bool :=
  if t.k = 2 then decide (0 ≤ t.s) && (t.p == 0) else if t.k = 3 then isPl t.s l.length && (t.p == 0) else if t.k = 6 then isPl t.s l.length && isPl t.p (arity l t.s) else (t.s == 0) && (t.p == 0)
def hasB (l : List Sg.Sig) (t : Tm) : Bool := if t.k = 3 then ((t.xs.length : Int) == arity l t.s) else isKindB t.k && ((t.xs.length : Int) == partsN t.k)
def allPl (xs : List Int) (many : Nat) : Bool := xs.all fun x => isPl x many
def mayB (l : List Sg.Sig) (many : Nat) (t : Tm) : Bool := standB l t && hasB l t && allPl t.xs many
theorem arity_at {l : List Sg.Sig} {i : Nat} (h : i < l.length) : arity l (i : Int) = (l[i].2.size : Int) := by simp [arity, h]
end Go.Proofs.YtnifmfdlocgefaaGreat.Tm

namespace Go.Proofs.YtnifmfdlocgefaaGreat.Tm
open Go.RowKit Kit Hs

theorem allPl_at (xs : List Int) (m k : Nat) (h : k < xs.length) : allPl (xs.drop k) m = (isPl xs[k] m && allPl (xs.drop (k + 1)) m) := by
  rw [List.drop_eq_getElem_cons h]; rfl
theorem allPl_end (xs : List Int) (m k : Nat) (h : xs.length ≤ k) : allPl (xs.drop k) m = true := by
  rw [List.drop_eq_nil_of_le h]; rfl

end Go.Proofs.YtnifmfdlocgefaaGreat.Tm

namespace Go.Proofs.YtnifmfdlocgefaaGreat.Tm
open Go.RowKit Kit Hs

set_option maxRecDepth 100000 in
set_option maxHeartbeats 2000000 in
theorem refmay_any (L E : Option Addr) (nl cl n c many : Nat) (l : List Sg.Sig) (t : Tm) (w : World) (hnl : nl = l.length) (hr : Sg.Row w w.heap.size L l) (hn : n = t.xs.length) (he : Ints w w.heap.size E t.xs) (hl : t.xs.length ≤ maxLen) :
    Calls Tryz.prog 124 #[.slice L nl cl, .int .i64 (many : Int), .agg #[.int .i64 t.k, .int .i64 t.s, .int .i64 t.p, .slice E n c]] w fun e w' => e = .returned (.bool (mayB l many t)) ∧ Q w w' := by
  subst hnl
  unfold maxLen at hl
  have q0 := (Q.refl w).alloc (Obj.cells #[.int .i64 t.k, .int .i64 t.s, .int .i64 t.p, .slice E n c] 175)
  have Hr := Lib.hid ((hr.q (Nat.le_refl _) q0).more q0.size)
  have He := Lib.hid ((he.q (Nat.le_refl _) q0).more q0.size)
  have X := Box4.new w (.int .i64 t.k) (.int .i64 t.s) (.int .i64 t.p) (.slice E n c) 175
  have HM : Hid (mayB l many t = (standB l t && hasB l t && allPl t.xs many)) := rfl
  have HN := Lib.hid hn
  rw [← hn] at hl
  clear hr he hn
  go_enter Tryz.func124, Tryz.ntmps124
  go_wp2_with fail
  generalize w.alloc (Obj.cells #[.int .i64 t.k, .int .i64 t.s, .int .i64 t.p, .slice E n c] 175) = W0 at *
  have x0 := X.c0
  have x1 := X.c1
  have x2 := X.c2
  have x3 := X.c3
  clear X
  go_loopw [7] (fun i wr => ∃ k : Nat, k ≤ n ∧ i = .int .i64 k ∧ Hid (allPl t.xs many = allPl (t.xs.drop k) many) ∧ W0 = wr) (fun i _ => n - (intOf i).toNat)
  case atStart => exact ⟨0, Nat.zero_le _, rfl, Lib.hid rfl, rfl⟩
  case round =>
    obtain ⟨k, hk, rfl, HF, rfl⟩ := hrel
    by_cases hlt : k < n
    · have hltx : k < t.xs.length := by have := HN.out; omega
      obtain ⟨ad, rfl, hb, c0⟩ := He.out.at_ hltx
      have HS := Lib.hid (allPl_at t.xs many k hltx)
      have HP : Hid (isPl t.xs[k] many = (decide (0 ≤ t.xs[k]) && decide (t.xs[k] < (many : Int)))) := rfl
      by_cases h0 : t.xs[k] < 0
      · have d0 : decide (t.xs[k] < 0) = true := decide_eq_true h0
        have HS' : Hid (allPl (t.xs.drop k) many = false) := by unfold Hid; rw [HS.out, HP.out, decide_eq_false (by omega : ¬ 0 ≤ t.xs[k])]; rfl
        clear h0
        go_wp2_with fail
        go_ret
        exact ⟨by rw [HM.out, HF.out, HS'.out, Bool.and_false]; rfl, q0⟩
      · have d0 : decide (t.xs[k] < 0) = false := decide_eq_false h0
        by_cases h1 : (many : Int) ≤ t.xs[k]
        · have d1 : decide ((many : Int) ≤ t.xs[k]) = true := decide_eq_true h1
          have HS' : Hid (allPl (t.xs.drop k) many = false) := by unfold Hid; rw [HS.out, HP.out, decide_eq_false (by omega : ¬ t.xs[k] < (many : Int)), Bool.and_false]; rfl
          clear h0 h1
          go_wp2_with fail
          go_ret
          exact ⟨by rw [HM.out, HF.out, HS'.out, Bool.and_false]; rfl, q0⟩
        · have d1 : decide ((many : Int) ≤ t.xs[k]) = false := decide_eq_false h1
          have HS' : Hid (allPl (t.xs.drop k) many = allPl (t.xs.drop (k + 1)) many) := by unfold Hid; rw [HS.out, HP.out, decide_eq_true (by omega : 0 ≤ t.xs[k]), decide_eq_true (by omega : t.xs[k] < (many : Int))]; rfl
          clear h0 h1
          go_wp2_with fail
          go_roundw
          case rel => exact ⟨k + 1, by omega, by go_num, Lib.hid (HF.out.trans HS'.out), trivial⟩
          case measure => simp [intOf]; omega
    · have HS := Lib.hid (allPl_end t.xs many k (by have := HN.out; omega))
      have HM2 : Hid (mayB l many t = (standB l t && hasB l t)) := by unfold Hid; rw [HM.out, HF.out, HS.out, Bool.and_true]
      clear HM HF HS He
      go_upto_region 7 with fail
      go_cut [9] (fun f wx => f = .bool (isPl t.s l.length) ∧ W0 = wx)
      case first =>
        by_cases h0 : 0 ≤ t.s
        · have d0 : decide (0 ≤ t.s) = true := decide_eq_true h0
          go_wp2_with fail
          all_goals go_meet
          all_goals exact ⟨congrArg Value.bool (by unfold isPl; rw [decide_eq_true h0]; rfl), rfl⟩
        · have d0 : decide (0 ≤ t.s) = false := decide_eq_false h0
          clear h0
          go_wp2_with fail
          all_goals go_meet
          all_goals exact ⟨congrArg Value.bool (by unfold isPl; rw [d0]; rfl), rfl⟩
      case rest =>
        obtain ⟨rfl, rfl⟩ := hcut
        have hA : ∀ (i : Nat), t.s = (i : Int) → i < l.length → ∃ ad, L = some ad ∧ W0.cell? ⟨(ad.add (i * 2)).block, (ad.add (i * 2)).off + 1, none⟩ = some (.string (l[i]?.getD (ByteArray.empty, ByteArray.empty)).2) := fun i _ hi => by
          obtain ⟨ad, e, _, _, c1⟩ := Hr.out.at_ hi
          exact ⟨ad, e, by rw [List.getElem?_eq_getElem hi]; exact c1⟩
        have HA := Lib.hid hA
        have HN' : Hid ((t.xs.length : Int) = (n : Int)) := by unfold Hid; rw [HN.out]
        clear hA Hr hlt hk HN
        by_cases k0 : t.k = 0
        · have f0 : (t.k == 0) = true := by simpa using k0
          have HK : Hid (standB l t = ((t.s == 0) && (t.p == 0))) := by unfold Hid standB; rw [if_neg (by omega), if_neg (by omega), if_neg (by omega)]
          have HH : Hid (hasB l t = ((n : Int) == 0)) := by unfold Hid hasB; rw [if_neg (by omega), HN'.out, k0]; rfl
          clear k0 HA
          cases s0 : (t.s == 0)
          · have HR : Hid (mayB l many t = false) := by unfold Hid; rw [HM2.out, HK.out, s0]; rfl
            go_wp2_with fail
            go_ret
            exact ⟨by rw [HR.out]; rfl, q0⟩
          · cases p0 : (t.p == 0)
            · have HR : Hid (mayB l many t = false) := by unfold Hid; rw [HM2.out, HK.out, s0, p0]; rfl
              go_wp2_with fail
              go_ret
              exact ⟨by rw [HR.out]; rfl, q0⟩
            · have HR : Hid (mayB l many t = ((n : Int) == 0)) := by unfold Hid; rw [HM2.out, HK.out, HH.out, s0, p0]; rfl
              go_wp2_with fail
              go_ret
              exact ⟨by rw [HR.out]; first | rfl | simp, q0⟩
        have f0 : (t.k == 0) = false := by simpa using k0
        by_cases k1 : t.k = 1
        · have f1 : (t.k == 1) = true := by simpa using k1
          have HK : Hid (standB l t = ((t.s == 0) && (t.p == 0))) := by unfold Hid standB; rw [if_neg (by omega), if_neg (by omega), if_neg (by omega)]
          have HH : Hid (hasB l t = ((n : Int) == 0)) := by unfold Hid hasB; rw [if_neg (by omega), HN'.out, k1]; rfl
          clear k0 k1 HA
          cases s0 : (t.s == 0)
          · have HR : Hid (mayB l many t = false) := by unfold Hid; rw [HM2.out, HK.out, s0]; rfl
            go_wp2_with fail
            go_ret
            exact ⟨by rw [HR.out]; rfl, q0⟩
          · cases p0 : (t.p == 0)
            · have HR : Hid (mayB l many t = false) := by unfold Hid; rw [HM2.out, HK.out, s0, p0]; rfl
              go_wp2_with fail
              go_ret
              exact ⟨by rw [HR.out]; rfl, q0⟩
            · have HR : Hid (mayB l many t = ((n : Int) == 0)) := by unfold Hid; rw [HM2.out, HK.out, HH.out, s0, p0]; rfl
              go_wp2_with fail
              go_ret
              exact ⟨by rw [HR.out]; first | rfl | simp, q0⟩
        have f1 : (t.k == 1) = false := by simpa using k1
        by_cases k2 : t.k = 2
        · have f2 : (t.k == 2) = true := by simpa using k2
          have HK : Hid (standB l t = (decide (0 ≤ t.s) && (t.p == 0))) := by unfold Hid standB; rw [if_pos k2]
          have HH : Hid (hasB l t = ((n : Int) == 0)) := by unfold Hid hasB; rw [if_neg (by omega), HN'.out, k2]; rfl
          clear k0 k1 k2 HA
          cases s0 : decide (0 ≤ t.s)
          · have HR : Hid (mayB l many t = false) := by unfold Hid; rw [HM2.out, HK.out, s0]; rfl
            go_wp2_with fail
            go_ret
            exact ⟨by rw [HR.out]; rfl, q0⟩
          · cases p0 : (t.p == 0)
            · have HR : Hid (mayB l many t = false) := by unfold Hid; rw [HM2.out, HK.out, s0, p0]; rfl
              go_wp2_with fail
              go_ret
              exact ⟨by rw [HR.out]; rfl, q0⟩
            · have HR : Hid (mayB l many t = ((n : Int) == 0)) := by unfold Hid; rw [HM2.out, HK.out, HH.out, s0, p0]; rfl
              go_wp2_with fail
              go_ret
              exact ⟨by rw [HR.out]; first | rfl | simp, q0⟩
        have f2 : (t.k == 2) = false := by simpa using k2
        by_cases k3 : t.k = 3
        · have f3 : (t.k == 3) = true := by simpa using k3
          have HK : Hid (standB l t = (isPl t.s l.length && (t.p == 0))) := by unfold Hid standB; rw [if_neg (by omega), if_pos k3]
          have HH : Hid (hasB l t = ((n : Int) == arity l t.s)) := by unfold Hid hasB; rw [if_pos k3, HN'.out]
          clear k0 k1 k2 k3
          cases s0 : isPl t.s l.length
          · have HR : Hid (mayB l many t = false) := by unfold Hid; rw [HM2.out, HK.out, s0]; rfl
            go_wp2_with fail
            go_ret
            exact ⟨by rw [HR.out]; rfl, q0⟩
          · cases p0 : (t.p == 0)
            · have HR : Hid (mayB l many t = false) := by unfold Hid; rw [HM2.out, HK.out, s0, p0]; rfl
              go_wp2_with fail
              go_ret
              exact ⟨by rw [HR.out]; rfl, q0⟩
            · have HR : Hid (mayB l many t = ((n : Int) == arity l t.s)) := by unfold Hid; rw [HM2.out, HK.out, HH.out, s0, p0]; rfl
              obtain ⟨h0, h1⟩ := (isPl_iff _ _).1 s0
              obtain ⟨i, hi⟩ := Int.eq_ofNat_of_zero_le h0
              have hli : i < l.length := by omega
              obtain ⟨ad, rfl, c1⟩ := HA.out i hi hli
              rw [List.getElem?_eq_getElem hli, Option.getD_some] at c1
              have HE : Hid (mayB l many t = ((n : Int) == (l[i].2.size : Int))) := by unfold Hid; rw [HR.out, hi, arity_at hli]
              rw [hi] at x1 h0 h1 s0
              clear hi
              go_wp2_with fail
              go_ret
              exact ⟨by rw [HE.out]; first | rfl | simp, q0⟩
        have f3 : (t.k == 3) = false := by simpa using k3
        by_cases k4 : t.k = 4
        · have f4 : (t.k == 4) = true := by simpa using k4
          have HK : Hid (standB l t = ((t.s == 0) && (t.p == 0))) := by unfold Hid standB; rw [if_neg (by omega), if_neg (by omega), if_neg (by omega)]
          have HH : Hid (hasB l t = ((n : Int) == 2)) := by unfold Hid hasB; rw [if_neg (by omega), HN'.out, k4]; rfl
          clear k0 k1 k2 k3 k4 HA
          cases s0 : (t.s == 0)
          · have HR : Hid (mayB l many t = false) := by unfold Hid; rw [HM2.out, HK.out, s0]; rfl
            go_wp2_with fail
            go_ret
            exact ⟨by rw [HR.out]; rfl, q0⟩
          · cases p0 : (t.p == 0)
            · have HR : Hid (mayB l many t = false) := by unfold Hid; rw [HM2.out, HK.out, s0, p0]; rfl
              go_wp2_with fail
              go_ret
              exact ⟨by rw [HR.out]; rfl, q0⟩
            · have HR : Hid (mayB l many t = ((n : Int) == 2)) := by unfold Hid; rw [HM2.out, HK.out, HH.out, s0, p0]; rfl
              go_wp2_with fail
              go_ret
              exact ⟨by rw [HR.out]; first | rfl | simp, q0⟩
        have f4 : (t.k == 4) = false := by simpa using k4
        by_cases k5 : t.k = 5
        · have f5 : (t.k == 5) = true := by simpa using k5
          have HK : Hid (standB l t = ((t.s == 0) && (t.p == 0))) := by unfold Hid standB; rw [if_neg (by omega), if_neg (by omega), if_neg (by omega)]
          have HH : Hid (hasB l t = ((n : Int) == 2)) := by unfold Hid hasB; rw [if_neg (by omega), HN'.out, k5]; rfl
          clear k0 k1 k2 k3 k4 k5 HA
          cases s0 : (t.s == 0)
          · have HR : Hid (mayB l many t = false) := by unfold Hid; rw [HM2.out, HK.out, s0]; rfl
            go_wp2_with fail
            go_ret
            exact ⟨by rw [HR.out]; rfl, q0⟩
          · cases p0 : (t.p == 0)
            · have HR : Hid (mayB l many t = false) := by unfold Hid; rw [HM2.out, HK.out, s0, p0]; rfl
              go_wp2_with fail
              go_ret
              exact ⟨by rw [HR.out]; rfl, q0⟩
            · have HR : Hid (mayB l many t = ((n : Int) == 2)) := by unfold Hid; rw [HM2.out, HK.out, HH.out, s0, p0]; rfl
              go_wp2_with fail
              go_ret
              exact ⟨by rw [HR.out]; first | rfl | simp, q0⟩
        have f5 : (t.k == 5) = false := by simpa using k5
        by_cases k6 : t.k = 6
        · have f6 : (t.k == 6) = true := by simpa using k6
          have HK : Hid (standB l t = (isPl t.s l.length && isPl t.p (arity l t.s))) := by unfold Hid standB; rw [if_neg (by omega), if_neg (by omega), if_pos k6]
          have HH : Hid (hasB l t = ((n : Int) == 1)) := by unfold Hid hasB; rw [if_neg (by omega), HN'.out, k6]; rfl
          clear k0 k1 k2 k3 k4 k5 k6
          cases s0 : isPl t.s l.length
          · have HR : Hid (mayB l many t = false) := by unfold Hid; rw [HM2.out, HK.out, s0]; rfl
            go_wp2_with fail
            go_quiet (fail)
            go_wp2_with fail
            go_ret
            exact ⟨by rw [HR.out]; rfl, q0.drewN _⟩
          · obtain ⟨h0, h1⟩ := (isPl_iff _ _).1 s0
            obtain ⟨i, hi⟩ := Int.eq_ofNat_of_zero_le h0
            have hli : i < l.length := by omega
            obtain ⟨ad, rfl, c1⟩ := HA.out i hi hli
            rw [List.getElem?_eq_getElem hli, Option.getD_some] at c1
            have HE : Hid (mayB l many t = (isPl t.p (l[i].2.size : Int) && ((n : Int) == 1))) := by unfold Hid; rw [HM2.out, HK.out, HH.out, s0, hi, arity_at hli]; rfl
            rw [hi] at x1 h0 h1 s0
            clear hi
            by_cases p0 : 0 ≤ t.p
            · have d0 : decide (0 ≤ t.p) = true := decide_eq_true p0
              cases p1 : decide (t.p < (l[i].2.size : Int))
              · have HR : Hid (mayB l many t = false) := by unfold Hid; rw [HE.out, isPl, p1, Bool.and_false]; rfl
                clear p0
                go_wp2_with fail
                go_quiet (fail)
                go_wp2_with fail
                go_ret
                exact ⟨by rw [HR.out]; rfl, q0.drewN _⟩
              · have HR : Hid (mayB l many t = ((n : Int) == 1)) := by unfold Hid; rw [HE.out, isPl, p1, d0]; rfl
                clear p0
                go_wp2_with fail
                go_quiet (fail)
                go_wp2_with fail
                go_ret
                exact ⟨by rw [HR.out]; first | rfl | simp, q0.drewN _⟩
            · have d0 : decide (0 ≤ t.p) = false := decide_eq_false p0
              have HR : Hid (mayB l many t = false) := by unfold Hid; rw [HE.out, isPl, d0]; rfl
              clear p0
              go_wp2_with fail
              go_quiet (fail)
              go_wp2_with fail
              go_ret
              exact ⟨by rw [HR.out]; rfl, q0.drewN _⟩
        have f6 : (t.k == 6) = false := by simpa using k6
        have HR : Hid (mayB l many t = false) := by
          unfold Hid
          rw [HM2.out, hasB, if_neg k3, isKindB, f0, f1, f2, f4, f5, f6]
          exact Bool.and_false _
        clear k0 k1 k2 k3 k4 k5 k6 HA
        go_wp2_with fail
        go_ret
        exact ⟨by rw [HR.out]; rfl, q0⟩

end Go.Proofs.YtnifmfdlocgefaaGreat.Tm

namespace Go.Proofs.YtnifmfdlocgefaaGreat.Tm
open Go.RowKit Kit Hs

def keyOk (l : List Sg.Sig) (key : List Int) (i : Nat) : Bool := decide (3 ≤ key.length) && mayB l i (ofKey key) && !(decide (i < 2) && ((ofKey key).k != (i : Int)))
def stF (l : List Sg.Sig) : List (List Int) → Nat → Bool
  | [], _ => true
  | k :: r, i => keyOk l k i && stF l r (i + 1)
def storeB (l : List Sg.Sig) (ks : List (List Int)) (sl : List Int) : Bool := rightB ks sl && decide (2 ≤ ks.length) && stF l ks 0
theorem stF_at (l : List Sg.Sig) (ks : List (List Int)) (i : Nat) (h : i < ks.length) : stF l (ks.drop i) i = (keyOk l ks[i] i && stF l (ks.drop (i + 1)) (i + 1)) := by
  rw [List.drop_eq_getElem_cons h]; rfl
theorem stF_end (l : List Sg.Sig) (ks : List (List Int)) (i : Nat) (h : ks.length ≤ i) : stF l (ks.drop i) i = true := by
  rw [List.drop_eq_nil_of_le h]; rfl
theorem stF_get {l : List Sg.Sig} : ∀ {ks : List (List Int)} {j : Nat}, stF l ks j = true → ∀ (i : Nat) (key : List Int), ks[i]? = some key → keyOk l key (j + i) = true
  | [], _, _, i, key, h => by simp at h
  | k :: r, j, h, i, key, hk => by
    simp only [stF, Bool.and_eq_true] at h
    cases i with
    | zero => obtain rfl : k = key := by simpa using hk
              exact h.1
    | succ i => have := stF_get h.2 i key (by simpa using hk)
                rwa [show j + 1 + i = j + (i + 1) by omega] at this
theorem stF_of {l : List Sg.Sig} : ∀ {ks : List (List Int)} {j : Nat}, (∀ (i : Nat) (key : List Int), ks[i]? = some key → keyOk l key (j + i) = true) → stF l ks j = true
  | [], _, _ => rfl
  | k :: r, j, h => by
    simp only [stF, Bool.and_eq_true]
    refine ⟨h 0 k rfl, stF_of fun i key hk => ?_⟩
    have := h (i + 1) key (by simpa using hk)
    rwa [show j + (i + 1) = j + 1 + i by omega] at this
/-- a store -/
structure Store (l : List Sg.Sig) (ks : List (List Int)) : Prop where
  dist : Dist ks
  two : 2 ≤ ks.length
  ok : ∀ (i : Nat) (key : List Int), ks[i]? = some key → keyOk l key i = true
theorem store_iff (l : List Sg.Sig) (ks : List (List Int)) (sl : List Int) : storeB l ks sl = true ↔ Store l ks ∧ sl = layI ks := by
  unfold storeB
  rw [Bool.and_eq_true, Bool.and_eq_true, decide_eq_true_eq, right_iff]
  constructor
  · rintro ⟨⟨⟨h1, h2⟩, h3⟩, h4⟩
    exact ⟨⟨h1, h3, fun i key hk => by have := stF_get h4 i key hk; rwa [Nat.zero_add] at this⟩, h2⟩
  · rintro ⟨⟨h1, h3, h4⟩, h2⟩
    exact ⟨⟨⟨h1, h2⟩, h3⟩, stF_of fun i key hk => by rw [Nat.zero_add]; exact h4 i key hk⟩
theorem ofKey_at {key : List Int} (h3 : 3 ≤ key.length) : ofKey key = ⟨key[0], key[1], key[2], key.drop 3⟩ := by
  have h0 : 0 < key.length := by omega
  have h1 : 1 < key.length := by omega
  have h2 : 2 < key.length := by omega
  simp [ofKey, h0, h1, h2]

set_option maxRecDepth 100000 in
set_option maxHeartbeats 2000000 in
theorem refRight3_any (L A S : Option Addr) (nl cl n c m d : Nat) (l : List Sg.Sig) (ks : List (List Int)) (sl : List Int) (w : World) (hnl : nl = l.length) (hr : Sg.Row w w.heap.size L l) (hn : n = ks.length) (hm : m = sl.length) (hk : Keys w w.heap.size A ks) (hS : Ints w w.heap.size S sl)
    (hs : ∀ k ∈ ks, k.length ≤ maxLen) (hl : ks.length ≤ 5000) (hsl : sl.length ≤ maxLen) :
    Calls Tryz.prog 59 #[.slice L nl cl, .agg #[.slice A n c, .slice S m d]] w fun e w' => e = .returned (.bool (storeB l ks sl)) ∧ Q w w' := by
  subst hnl
  subst hn
  subst hm
  have q0 := (Q.refl w).alloc (Obj.cells #[Value.slice A ks.length c, Value.slice S sl.length d] 26)
  have Hr := Lib.hid ((hr.q (Nat.le_refl _) q0).more q0.size)
  have Hk := Lib.hid ((hk.q (Nat.le_refl _) q0).more q0.size)
  have HS := Lib.hid ((hS.q (Nat.le_refl _) q0).more q0.size)
  have HB := Lib.hid (BoxT.new w (Value.slice A ks.length c) (Value.slice S sl.length d) 26)
  have HsM := Lib.hid hs
  have HD : Hid (storeB l ks sl = (rightB ks sl && decide (2 ≤ ks.length) && stF l ks 0)) := rfl
  clear hr hk hS hs
  go_enter Tryz.func59, Tryz.ntmps59
  go_wp2_with fail
  generalize w.alloc (Obj.cells #[Value.slice A ks.length c, Value.slice S sl.length d] 26) = W0 at *
  refine (refRight_any _ _ _ _ _ _ ks sl _ rfl rfl Hk.out HS.out HsM.out hl hsl).mono ?_
  rintro e w1 ⟨rfl, q1⟩
  have HB1 := Lib.hid (HB.out.q q1)
  have b0 := HB1.out.c0
  cases hR : rightB ks sl
  · rw [hR] at HD
    go_wp2_with fail
    go_ret
    exact ⟨by rw [HD.out]; rfl, q0.trans q1⟩
  · rw [hR] at HD
    by_cases h2 : 2 ≤ ks.length
    · have d2 : decide ((ks.length : Int) < 2) = false := decide_eq_false (by omega)
      have HD2 : Hid (storeB l ks sl = stF l ks 0) := by unfold Hid; rw [HD.out, decide_eq_true h2]; rfl
      have Hr1 := Lib.hid ((Hr.out.q (Nat.le_refl _) q1).more q1.size)
      have Hk1 := Lib.hid ((Hk.out.q (Nat.le_refl _) q1).more q1.size)
      have q01 := q0.trans q1
      clear b0 hR HD
      have b0 := HB1.out.c0
      go_wp2_with fail
      go_loopw [6, 7, 8] (fun i _ _ wr => ∃ k : Nat, k ≤ ks.length ∧ i = .int .i64 k ∧ Hid (stF l ks 0 = stF l (ks.drop k) k) ∧ Q w1 wr) (fun i _ _ _ => ks.length - (intOf i).toNat)
      case atStart => exact ⟨0, Nat.zero_le _, rfl, Lib.hid rfl, Q.refl _⟩
      case round =>
        obtain ⟨k, hkl, rfl, HF, qr⟩ := hrel
        clear b0
        have HBr := Lib.hid (HB1.out.q qr)
        have b0 := HBr.out.c0
        have b1 := HBr.out.c1
        by_cases hlt : k < ks.length
        · have HS1 := Lib.hid (stF_at l ks k hlt)
          have Hkr := Lib.hid ((Hk1.out.q (Nat.le_refl _) qr).more qr.size)
          by_cases h3 : 3 ≤ ks[k].length
          · have HT := Lib.hid (termAt_at hlt h3)
            obtain ⟨t, ht⟩ : ∃ t, ofKey ks[k] = t := ⟨_, rfl⟩
            rw [ht] at HT
            have HK : Hid (keyOk l ks[k] k = (mayB l k t && !(decide (k < 2) && (t.k != (k : Int))))) := by unfold Hid keyOk; rw [decide_eq_true h3, ht]; rfl
            have Hl : Hid (t.xs.length ≤ maxLen) := by unfold Hid; rw [← ht]; have := HsM.out _ (List.getElem_mem hlt); simp [ofKey]; omega
            clear ht h3
            go_wp2_with fail
            refine (refOf_any _ _ _ _ _ _ ks k _ rfl Hkr.out).mono ?_
            rintro e w2 ⟨A1, n1, c1, rfl, hn1, hA1, q2⟩
            rw [HT.out] at hn1 hA1 ⊢
            simp only [Option.getD_some, Option.isSome_some] at hn1 hA1 ⊢
            have Hn1 := Lib.hid hn1
            have q23 := q2.alloc (Obj.cells #[.int .i64 t.k, .int .i64 t.s, .int .i64 t.p, .slice A1 n1 c1] 175)
            have q3 := (Q.refl w2).alloc (Obj.cells #[.int .i64 t.k, .int .i64 t.s, .int .i64 t.p, .slice A1 n1 c1] 175)
            have HA1 := Lib.hid ((hA1.q (Nat.le_refl _) q3).more q3.size)
            have X := Box4.new w2 (.int .i64 t.k) (.int .i64 t.s) (.int .i64 t.p) (.slice A1 n1 c1) 175
            have qr3 := qr.trans q23
            have HX := Lib.hid X
            clear hn1 hA1 X b0 b1
            go_wp2_with fail
            generalize w2.alloc (Obj.cells #[.int .i64 t.k, .int .i64 t.s, .int .i64 t.p, .slice A1 n1 c1] 175) = W3 at *
            refine (refmay_any _ _ _ _ _ _ k l t _ rfl ((Hr1.out.q (Nat.le_refl _) qr3).more qr3.size) Hn1.out HA1.out Hl.out).mono ?_
            rintro e w4 ⟨rfl, q4⟩
            have qr4 := qr3.trans q4
            have x0 := (HX.out.q q4).c0
            cases hM : mayB l k t
            · have HR : Hid (storeB l ks sl = false) := by unfold Hid; rw [HD2.out, HF.out, HS1.out, HK.out, hM]; rfl
              go_wp2_with fail
              go_ret
              exact ⟨by rw [HR.out]; rfl, q01.trans qr4⟩
            · by_cases hk2 : k < 2
              · have d3 : decide ((k : Int) < 2) = true := decide_eq_true (by omega)
                cases hne : (t.k != (k : Int))
                · have HR : Hid (stF l (ks.drop k) k = stF l (ks.drop (k + 1)) (k + 1)) := by unfold Hid; rw [HS1.out, HK.out, hM, hne, Bool.and_false]; rfl
                  clear hk2
                  go_wp2_with fail
                  go_roundw
                  case rel => exact ⟨k + 1, by omega, by go_num, Lib.hid (HF.out.trans HR.out), qr4⟩
                  case measure => simp [intOf]; omega
                · have HR : Hid (storeB l ks sl = false) := by unfold Hid; rw [HD2.out, HF.out, HS1.out, HK.out, hM, hne, decide_eq_true hk2]; rfl
                  clear hk2
                  go_wp2_with fail
                  go_ret
                  exact ⟨by rw [HR.out]; rfl, q01.trans qr4⟩
              · have d3 : decide ((k : Int) < 2) = false := decide_eq_false (by omega)
                have HR : Hid (stF l (ks.drop k) k = stF l (ks.drop (k + 1)) (k + 1)) := by unfold Hid; rw [HS1.out, HK.out, hM, decide_eq_false hk2]; rfl
                clear hk2
                go_wp2_with fail
                go_roundw
                case rel => exact ⟨k + 1, by omega, by go_num, Lib.hid (HF.out.trans HR.out), qr4⟩
                case measure => simp [intOf]; omega
          · have HT := Lib.hid (termAt_short hlt (Nat.lt_of_not_le h3))
            have HR : Hid (storeB l ks sl = false) := by unfold Hid; rw [HD2.out, HF.out, HS1.out, keyOk, decide_eq_false h3]; rfl
            clear h3
            go_wp2_with fail
            refine (refOf_any _ _ _ _ _ _ ks k _ rfl Hkr.out).mono ?_
            rintro e w2 ⟨A1, n1, c1, rfl, hn1, hA1, q2⟩
            rw [HT.out]
            simp only [Option.getD_none, Option.isSome_none, Tm.none]
            have q23 := q2.alloc (Obj.cells #[.int .i64 0, .int .i64 0, .int .i64 0, .slice A1 n1 c1] 175)
            clear hn1 hA1 b0 b1
            go_wp2_with fail
            go_ret
            exact ⟨by rw [HR.out]; rfl, q01.trans (qr.trans q23)⟩
        · have HS1 := Lib.hid (stF_end l ks k (by omega))
          go_wp2_with fail
          go_ret
          exact ⟨by rw [HD2.out, HF.out, HS1.out]; rfl, q01.trans qr⟩
    · have d2 : decide ((ks.length : Int) < 2) = true := decide_eq_true (by omega)
      have HD2 : Hid (storeB l ks sl = false) := by unfold Hid; rw [HD.out, decide_eq_false h2]; rfl
      go_wp2_with fail
      go_ret
      exact ⟨by rw [HD2.out]; rfl, q0.trans q1⟩
end Go.Proofs.YtnifmfdlocgefaaGreat.Tm

namespace Go.Proofs.YtnifmfdlocgefaaGreat.Hs
open Go.RowKit Kit

theorem clone_intsF {w w' W : World} {S : Option Addr} {sl : List Int} {lo B : Nat} (h : 0 < sl.length → ∃ g, S = some ⟨g, 0, none⟩ ∧ lo ≤ g ∧ OwnI w g sl) (q : Q w w') (hB : w'.heap.size = B) (hW : ∀ p : Addr, lo ≤ p.block → p.block < B → W.cell? p = w'.cell? p) : Ints W B S sl := fun h0 => by
  obtain ⟨g, e, hg, ho⟩ := h h0
  have ho' := ho.q q
  refine ⟨_, e, by rw [← hB]; exact ho'.1, fun i x hx => ?_⟩
  rw [add_zero_head, hW _ hg (by rw [← hB]; exact ho'.1)]
  exact (ho'.2 i x hx).1
end Go.Proofs.YtnifmfdlocgefaaGreat.Hs

namespace Go.Proofs.YtnifmfdlocgefaaGreat.Kit

section
variable {P : Program} {ops : Array Oper} {Q : Exit → Act → World → Prop} {S : World → Prop}
theorem take_w {i : Nat} {oi : Oper} {d : Option Tmp} {v : Value} {fuel : Nat} {listed : Array Bool} {a : Act} {w : World} (hi : ops[i]? = some oi)
    (hs : Region.noSelect ops = true) (hf : Region.free .any ops listed i = true) (hr : (Region.ready .any ops listed).contains i = true)
    (hQ : ∀ c a w, Q (.panic c) (a.put d v) w → Q (.panic c) a w) (hd : oi.dst = d) (hw : Region.wanted oi (yielded ops a.tmps) = true) (hy : ∀ w, S w → (execOp a.eval oi).run P w = .ok (.value v) w) (hS : S w)
    (h : wpAnyH P .any ops Q S fuel (listed.setIfInBounds i true) (a.put d v) w) : wpAnyH P .any ops Q S (fuel + 1) listed a w := by
  subst hd
  exact wpAnyH_take hi hs hf hr hQ (.inl ⟨hw, hy⟩) hS h
theorem take_u {i : Nat} {oi : Oper} {d : Option Tmp} {fuel : Nat} {listed : Array Bool} {a : Act} {w : World} (hi : ops[i]? = some oi)
    (hs : Region.noSelect ops = true) (hf : Region.free .any ops listed i = true) (hr : (Region.ready .any ops listed).contains i = true)
    (hQ : ∀ c a w, Q (.panic c) (a.put d undef) w → Q (.panic c) a w) (hd : oi.dst = d) (hw : Region.wanted oi (yielded ops a.tmps) = false) (hS : S w)
    (h : wpAnyH P .any ops Q S fuel (listed.setIfInBounds i true) (a.put d undef) w) : wpAnyH P .any ops Q S (fuel + 1) listed a w := by
  subst hd
  exact wpAnyH_take hi hs hf hr hQ (.inr ⟨hw, rfl⟩) hS h
theorem call_w {i : Nat} {o : Oper} {fuel : Nat} {listed : Array Bool} {a : Act} {w : World} (ho : ops[i]? = some o) (hr : Region.ready .any ops listed = [i])
    (hw : Region.wanted o (yielded ops a.tmps) = true)
    (h : ∀ K' : Act → World → Prop, Shut (∀ a w, S w → (S w → wpAnyH P .any ops Q S fuel (listed.setIfInBounds i true) a w) → K' a w) → Oper.wp P o a w K' Q) :
    wpAnyH P .any ops Q S (fuel + 1) listed a w :=
  wpAnyH_ready hr (by simp) (AllReadyH.cons ho (fun K' hK => by rw [if_pos hw]; exact h K' hK) AllReadyH.nil)
end
end Go.Proofs.YtnifmfdlocgefaaGreat.Kit
