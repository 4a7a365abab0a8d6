/-
  What the proofs lean on, part 10 of 20.
-/
import Derived.Test.YtnifmfdlocgefaaGreatPa
import Derived.Test.YtnifmfdlocgefaaGreatPc
import Derived.Test.YtnifmfdlocgefaaGreatPd
import Derived.Test.YtnifmfdlocgefaaGreatPf
import Derived.Test.YtnifmfdlocgefaaGreatPi
import Derived.Laws.StructEq
import Derived.ChangeKeysEq
import Derived.Deep.RegionHeld
import Derived.Laws.EntriesVeiled
import Derived.Deep.RegionHeld3
import Derived.Deep.QuietTactic
import Derived.BigQuiet
namespace Go.Proofs.YtnifmfdlocgefaaGreat.Nm
open Go.RowKit Kit

def inB (lo hi c : Int) : Bool := decide (lo ≤ c) && decide (c ≤ hi)

def goesB (c : Int) : Bool := inB 97 122 c || inB 65 90 c || inB 48 57 c || (c == 95)

theorem take_snoc (s : ByteArray) (k : Nat) (h : k < s.size) : s.data.toList.take (k + 1) = s.data.toList.take k ++ [s[k]] := by
  rw [List.take_succ_eq_append_getElem (by simpa using h)]; rfl

def restB (l : List UInt8) : Bool := (l.drop 1).all fun c => goesB c.toNat
/-- a name whose first byte lies from lo to hi -/
def nameB (lo hi : Int) (l : List UInt8) : Bool :=
  match l with
  | [] => false
  | c :: _ => decide (l.length ≤ 20) && inB lo hi c.toNat && restB l

theorem small_any (c : Int) (w : World) :
    Calls Tryz.prog 182 #[.int .u8 c] w fun e w' => e = .returned (.bool (inB 97 122 c)) ∧ w = w' := by
  by_cases h : 97 ≤ c
  · have d : decide (97 ≤ c) = true := by simpa using h
    have HR : Hid (inB 97 122 c = decide (c ≤ 122)) := by unfold Hid inB; rw [d]; rfl
    go_enter Tryz.func182, Tryz.ntmps182
    go_wp2_with fail
    go_ret
    exact ⟨by rw [HR.out]; rfl, rfl⟩
  · have d : decide (97 ≤ c) = false := by simpa using h
    have HR : Hid (inB 97 122 c = false) := by unfold Hid inB; rw [d]; rfl
    go_enter Tryz.func182, Tryz.ntmps182
    go_wp2_with fail
    go_ret
    exact ⟨by rw [HR.out]; rfl, rfl⟩
theorem big_any (c : Int) (w : World) :
    Calls Tryz.prog 261 #[.int .u8 c] w fun e w' => e = .returned (.bool (inB 65 90 c)) ∧ w = w' := by
  by_cases h : 65 ≤ c
  · have d : decide (65 ≤ c) = true := by simpa using h
    have HR : Hid (inB 65 90 c = decide (c ≤ 90)) := by unfold Hid inB; rw [d]; rfl
    go_enter Tryz.func261, Tryz.ntmps261
    go_wp2_with fail
    go_ret
    exact ⟨by rw [HR.out]; rfl, rfl⟩
  · have d : decide (65 ≤ c) = false := by simpa using h
    have HR : Hid (inB 65 90 c = false) := by unfold Hid inB; rw [d]; rfl
    go_enter Tryz.func261, Tryz.ntmps261
    go_wp2_with fail
    go_ret
    exact ⟨by rw [HR.out]; rfl, rfl⟩

def letB (c : Int) : Bool := inB 97 122 c || inB 65 90 c
def figB (c : Int) : Bool := inB 48 57 c || (c == 95)
def okAt (k : Nat) (c : Int) : Bool := letB c || (!(k == 0) && figB c)
def okFrom : List UInt8 → Nat → Bool
  | [], _ => true
  | c :: l, k => okAt k c.toNat && okFrom l (k + 1)
def nmB (l : List UInt8) : Bool := decide (1 ≤ l.length) && decide (l.length ≤ 20) && okFrom l 0
theorem okFrom_at (l : List UInt8) (k : Nat) (h : k < l.length) : okFrom (l.drop k) k = (okAt k l[k].toNat && okFrom (l.drop (k + 1)) (k + 1)) := by
  rw [List.drop_eq_getElem_cons h]; rfl
theorem okFrom_end (l : List UInt8) (k : Nat) (h : l.length ≤ k) : okFrom (l.drop k) k = true := by
  rw [List.drop_eq_nil_of_le h]; rfl
theorem okFrom_rest : ∀ (l : List UInt8) (k : Nat), okFrom l (k + 1) = l.all fun c => goesB c.toNat
  | [], _ => rfl
  | c :: l, k => by
    show (okAt (k + 1) c.toNat && okFrom l (k + 2)) = (goesB c.toNat && _)
    rw [okFrom_rest l (k + 1)]
    have e : okAt (k + 1) c.toNat = goesB c.toNat := by
      unfold okAt letB figB goesB
      generalize inB 97 122 c.toNat = p, inB 65 90 c.toNat = q, inB 48 57 c.toNat = r, ((c.toNat : Int) == 95) = t
      rw [show ((k + 1) == 0) = false by simp]
      revert p q r t; decide
    rw [e]
theorem con_of_nm (l : List UInt8) (h : 0 < l.length) : (nmB l && inB 97 122 (l[0].toNat : Int)) = nameB 97 122 l := by
  match l, h with
  | c :: l, _ =>
    simp only [List.getElem_cons_zero]
    show (decide (1 ≤ (c :: l).length) && decide ((c :: l).length ≤ 20) && (okAt 0 c.toNat && okFrom l (0 + 1)) && _) = (decide ((c :: l).length ≤ 20) && inB 97 122 c.toNat && l.all _)
    rw [okFrom_rest l 0, decide_eq_true (by simp : 1 ≤ (c :: l).length)]
    unfold okAt letB
    generalize inB 97 122 c.toNat = p, inB 65 90 c.toNat = q, (l.all fun c => goesB c.toNat) = r, decide ((c :: l).length ≤ 20) = t, figB c.toNat = u
    revert p q r t u; decide

set_option maxRecDepth 100000 in
set_option maxHeartbeats 400000 in
theorem name_any (s : ByteArray) (w : World) :
    Calls Tryz.prog 181 #[.string s] w fun e w' => e = .returned (.bool (nmB s.data.toList)) ∧ w = w' := by
  have hlen : s.data.toList.length = s.size := by simp
  by_cases h0 : s.size < 1
  · have HR : Hid (nmB s.data.toList = false) := by unfold Hid nmB; rw [hlen, decide_eq_false (by omega)]; rfl
    clear hlen
    go_enter Tryz.func181, Tryz.ntmps181
    go_wp2_with fail
    go_ret
    exact ⟨by rw [HR.out]; rfl, rfl⟩
  · by_cases h20 : 20 < s.size
    · have HR : Hid (nmB s.data.toList = false) := by unfold Hid nmB; rw [hlen, decide_eq_false (by omega : ¬ s.size ≤ 20), Bool.and_false]; rfl
      clear hlen
      go_enter Tryz.func181, Tryz.ntmps181
      go_wp2_with fail
      go_ret
      exact ⟨by rw [HR.out]; rfl, rfl⟩
    · have HR : Hid (nmB s.data.toList = okFrom s.data.toList 0) := by unfold Hid nmB; rw [hlen, decide_eq_true (by omega), decide_eq_true (by omega)]; rfl
      have d1 : decide ((s.size : Int) < 1) = false := by simp; omega
      have d2 : decide (20 < (s.size : Int)) = false := by simp; omega
      clear hlen
      go_enter Tryz.func181, Tryz.ntmps181
      go_wp2_with fail
      go_loop [3, 4, 5] (fun i _ _ => ∃ k : Nat, k ≤ s.size ∧ i = .int .i64 k ∧ Hid (okFrom s.data.toList 0 = okFrom (s.data.toList.drop k) k)) (fun i _ _ => s.size - (intOf i).toNat)
      case atStart => exact ⟨0, Nat.zero_le _, rfl, Lib.hid (by simp)⟩
      case round =>
        obtain ⟨k, hk, rfl, HF⟩ := hrel
        by_cases hlt : k < s.size
        · have HS : Hid (okFrom (s.data.toList.drop k) k = (okAt k s[k].toNat && okFrom (s.data.toList.drop (k + 1)) (k + 1))) := okFrom_at s.data.toList k (by simpa using hlt)
          go_upto_region 6 with fail
          go_cut [4] (fun f wx => f = .bool (figB s[k].toNat) ∧ wx = w)
          case first =>
            go_wp2_with fail
            all_goals go_meet
            all_goals
              refine ⟨congrArg Value.bool ?_, rfl⟩
              rw [Bool.eq_iff_iff]
              simp only [figB, inB, Bool.or_eq_true, Bool.and_eq_true, decide_eq_true_eq, beq_iff_eq]
              first | omega | (refine ⟨fun _ => ?_, fun _ => trivial⟩; omega)
          case rest =>
            obtain ⟨rfl, rfl⟩ := hcut
            have HO : Hid (okAt k s[k].toNat = (inB 97 122 s[k].toNat || inB 65 90 s[k].toNat || (!(k == 0) && figB s[k].toNat))) := rfl
            cases hp : inB 97 122 s[k].toNat
            · cases hq : inB 65 90 s[k].toNat
              · by_cases hk0 : k = 0
                · have HS' : Hid (okFrom (s.data.toList.drop k) k = false) := by unfold Hid; rw [HS.out, HO.out, hp, hq, show (k == 0) = true by simpa using hk0]; rfl
                  have hk0' : ((k : Int) == 0) = true := by simpa using hk0
                  clear hk0
                  go_wp2_with (first | (go_at_call 182; refine (small_any _ _).mono ?_; rintro e w' ⟨rfl, rfl⟩) | (go_at_call 261; refine (big_any _ _).mono ?_; rintro e w' ⟨rfl, rfl⟩))
                  go_ret
                  exact ⟨by rw [HR.out, HF.out, HS'.out]; rfl, rfl⟩
                · have hk0' : ((k : Int) == 0) = false := by simpa using hk0
                  have hk1 : (k == 0) = false := by simpa using hk0
                  cases hf : figB s[k].toNat
                  · have HS' : Hid (okFrom (s.data.toList.drop k) k = false) := by unfold Hid; rw [HS.out, HO.out, hp, hq, hk1, hf]; rfl
                    clear hk0 hk1
                    go_wp2_with (first | (go_at_call 182; refine (small_any _ _).mono ?_; rintro e w' ⟨rfl, rfl⟩) | (go_at_call 261; refine (big_any _ _).mono ?_; rintro e w' ⟨rfl, rfl⟩))
                    go_ret
                    exact ⟨by rw [HR.out, HF.out, HS'.out]; rfl, rfl⟩
                  · have HS' : Hid (okFrom (s.data.toList.drop k) k = okFrom (s.data.toList.drop (k + 1)) (k + 1)) := by unfold Hid; rw [HS.out, HO.out, hp, hq, hk1, hf]; rfl
                    clear hk0 hk1
                    go_wp2_with (first | (go_at_call 182; refine (small_any _ _).mono ?_; rintro e w' ⟨rfl, rfl⟩) | (go_at_call 261; refine (big_any _ _).mono ?_; rintro e w' ⟨rfl, rfl⟩))
                    go_round
                    case rel => exact ⟨k + 1, by omega, by go_num, Lib.hid (HF.out.trans HS'.out)⟩
                    case measure => simp [intOf]; omega
              · have HS' : Hid (okFrom (s.data.toList.drop k) k = okFrom (s.data.toList.drop (k + 1)) (k + 1)) := by unfold Hid; rw [HS.out, HO.out, hp, hq]; rfl
                go_wp2_with (first | (go_at_call 182; refine (small_any _ _).mono ?_; rintro e w' ⟨rfl, rfl⟩) | (go_at_call 261; refine (big_any _ _).mono ?_; rintro e w' ⟨rfl, rfl⟩))
                go_round
                case rel => exact ⟨k + 1, by omega, by go_num, Lib.hid (HF.out.trans HS'.out)⟩
                case measure => simp [intOf]; omega
            · have HS' : Hid (okFrom (s.data.toList.drop k) k = okFrom (s.data.toList.drop (k + 1)) (k + 1)) := by unfold Hid; rw [HS.out, HO.out, hp]; rfl
              go_wp2_with (first | (go_at_call 182; refine (small_any _ _).mono ?_; rintro e w' ⟨rfl, rfl⟩) | (go_at_call 261; refine (big_any _ _).mono ?_; rintro e w' ⟨rfl, rfl⟩))
              go_round
              case rel => exact ⟨k + 1, by omega, by go_num, Lib.hid (HF.out.trans HS'.out)⟩
              case measure => simp [intOf]; omega
        · have HS := Lib.hid (okFrom_end s.data.toList k (by simp; omega))
          go_wp2_with fail
          go_ret
          exact ⟨by rw [HR.out, HF.out, HS.out]; rfl, rfl⟩

set_option maxRecDepth 100000 in
set_option maxHeartbeats 400000 in
theorem con_any (s : ByteArray) (w : World) :
    Calls Tryz.prog 120 #[.string s] w fun e w' => e = .returned (.bool (nameB 97 122 s.data.toList)) ∧ w = w' := by
  by_cases h0 : 0 < s.size
  · have HC : Hid ((nmB s.data.toList && inB 97 122 s[0].toNat) = nameB 97 122 s.data.toList) := con_of_nm s.data.toList (by simpa using h0)
    cases hn : nmB s.data.toList
    · rw [hn] at HC
      go_enter Tryz.func120, Tryz.ntmps120
      go_wp2_with fail
      refine (name_any _ _).mono ?_
      rintro e w1 ⟨rfl, rfl⟩
      go_wp2_with fail
      go_ret
      exact ⟨by rw [← HC.out]; rfl, rfl⟩
    · rw [hn] at HC
      go_enter Tryz.func120, Tryz.ntmps120
      go_wp2_with fail
      refine (name_any _ _).mono ?_
      rintro e w1 ⟨rfl, rfl⟩
      go_wp2_with fail
      refine (small_any _ _).mono ?_
      rintro e w1 ⟨rfl, rfl⟩
      go_wp2_with fail
      go_ret
      exact ⟨by rw [← HC.out]; rfl, rfl⟩
  · have e : s.data.toList = [] := List.eq_nil_of_length_eq_zero (by have : s.data.toList.length = s.size := by simp
                                                                     omega)
    have hn : nmB s.data.toList = false := by rw [e]; rfl
    have HR : Hid (nameB 97 122 s.data.toList = false) := by unfold Hid; rw [e]; rfl
    clear e
    go_enter Tryz.func120, Tryz.ntmps120
    go_wp2_with fail
    refine (name_any _ _).mono ?_
    rintro e w1 ⟨rfl, rfl⟩
    go_wp2_with fail
    go_ret
    exact ⟨by rw [HR.out]; rfl, rfl⟩

end Go.Proofs.YtnifmfdlocgefaaGreat.Nm

namespace Go.Proofs.YtnifmfdlocgefaaGreat.Ex
open Go.RowKit Kit Rw Go.Proofs.YtnifmfdlocgefaaGreat.Nm

theorem part_int (w : World) (xs : Array Value) (k : Nat) (x : Int) (h : xs[k]? = some (.int .i64 x)) : (part 3 xs k).run Tryz.prog w = .ok (.int .i64 x) w := run_part_plain w (by kernel_rfl) h
/-- how many parts a node has -/
def partsN (t : Tg) : Int := if t.1 = 6 then 1 else t.2.2
end Go.Proofs.YtnifmfdlocgefaaGreat.Ex

namespace Go.Proofs.YtnifmfdlocgefaaGreat.Ex
open Go.RowKit Kit Rw Go.Proofs.YtnifmfdlocgefaaGreat.Nm

inductive Ex where
  | mk (n : Tg) (ks : List Ex) : Ex
mutual
def Ex.nodes : Ex → List Tg
  | .mk n ks => nodesL ks ++ [n]
def nodesL : List Ex → List Tg
  | [] => []
  | e :: r => e.nodes ++ nodesL r
end
def Ex.root : Ex → Tg
  | .mk n _ => n
def Ex.size (e : Ex) : Nat := e.nodes.length
/-- how many parts, as a length -/
def np (t : Tg) : Nat := (partsN t).toNat
mutual
def Ex.wf : Ex → Prop
  | .mk n ks => ks.length = np n ∧ wfL ks
def wfL : List Ex → Prop
  | [] => True
  | e :: r => e.wf ∧ wfL r
end
end Go.Proofs.YtnifmfdlocgefaaGreat.Ex

namespace Go.Proofs.YtnifmfdlocgefaaGreat.Ex
open Go.RowKit Kit Rw Go.Proofs.YtnifmfdlocgefaaGreat.Nm

def cellsI (l : List Int) : List Value := l.map (Value.int .i64)
theorem cellsI_len (l : List Int) : (cellsI l).length = l.length := by simp [cellsI]
theorem cellsI_one (l : List Int) : ∀ u ∈ cellsI l, u.oneCell' = true := fun u hu => by
  obtain ⟨x, _, rfl⟩ := List.mem_map.1 hu; rfl
theorem cellsI_at {l : List Int} {k : Nat} (h : k < l.length) : (cellsI l)[k]? = some (.int .i64 l[k]) := by simp [cellsI, h]
theorem cellsI_append (a b : List Int) : cellsI (a ++ b) = cellsI a ++ cellsI b := by simp [cellsI]
theorem intInfo : (Tryz.prog.info? 3).map (fun i => (i.zero, i.size, i.bytes)) = some (some (.int .i64 0), 1, 8) := by kernel_rfl
end Go.Proofs.YtnifmfdlocgefaaGreat.Ex

namespace Go.Proofs.YtnifmfdlocgefaaGreat.Ex
open Go.RowKit Kit Rw Go.Proofs.YtnifmfdlocgefaaGreat.Nm

theorem int_at {w : World} {B : Nat} {A : Option Addr} {l : List Int} (h : Rds w B A (cellsI l)) {k : Nat} (hk : k < l.length) :
    ∃ ad, A = some ad ∧ ad.block < B ∧ w.cell? (ad.add k) = some (.int .i64 l[k]) := by
  obtain ⟨ad, e, hlt, hc⟩ := h (by rw [cellsI_len]; omega)
  exact ⟨ad, e, hlt, hc k _ (cellsI_at hk)⟩
end Go.Proofs.YtnifmfdlocgefaaGreat.Ex

namespace Go.Proofs.YtnifmfdlocgefaaGreat.Ex
open Go.RowKit Kit Rw
open Go.Proofs.YtnifmfdlocgefaaGreat.Sg (Sig findI)
theorem own_new8 (w : World) (cs : List Value) (t : TypeId) : OwnC (w.alloc (.cells cs.toArray t)) w.heap.size cs :=
  ⟨by simp, fun j v hv => ⟨by have := (src_alloc w cs t (0, 0)) (by have := (List.getElem?_eq_some_iff.1 hv).1; omega); obtain ⟨ad, e, h⟩ := this; injection e with e; subst e; have := h j v hv; rwa [add_zero_head] at this, World.frozen?_alloc_at _ _ _ _ rfl⟩⟩
def turnB (s v : UInt8) : UInt8 := if v = 43 then s else if v = 45 ∧ s = 76 then 82 else if v = 45 ∧ s = 82 then 76 else 66
end Go.Proofs.YtnifmfdlocgefaaGreat.Ex

namespace Go.Proofs.YtnifmfdlocgefaaGreat.Ex
open Go.RowKit Kit Rw Go.Proofs.YtnifmfdlocgefaaGreat.Nm

end Go.Proofs.YtnifmfdlocgefaaGreat.Ex

namespace Go.Proofs.YtnifmfdlocgefaaGreat.Ex
open Go.RowKit Kit Rw Go.Proofs.YtnifmfdlocgefaaGreat.Nm

end Go.Proofs.YtnifmfdlocgefaaGreat.Ex

namespace Go.Proofs.YtnifmfdlocgefaaGreat.Ex
open Go.RowKit Kit Rw
open Go.Proofs.YtnifmfdlocgefaaGreat.Sg (Sig findI Row refFind_any)
end Go.Proofs.YtnifmfdlocgefaaGreat.Ex

namespace Go.Proofs.YtnifmfdlocgefaaGreat.Ld
open Go.RowKit Kit Rw
open Go.Proofs.YtnifmfdlocgefaaGreat.Sg (Sig findI)
open Go.Proofs.YtnifmfdlocgefaaGreat.Hs (Dist atI atI_cases atI_some)
open Go.Proofs.YtnifmfdlocgefaaGreat.Tm (Tm Store mayB keyOk ofKey standB isPl isPl_iff allPl hasB)
open Go.Proofs.YtnifmfdlocgefaaGreat.Ex (Ex np)
section
variable {L : List Sig} {ks : List (List Int)} {own : List ByteArray}
end

section
variable {L : List Sig} {ks : List (List Int)} {own : List ByteArray}
end
end Go.Proofs.YtnifmfdlocgefaaGreat.Ld

namespace Go.Proofs.YtnifmfdlocgefaaGreat.Ld
open Go.RowKit Kit Rw
open Go.Proofs.YtnifmfdlocgefaaGreat.Sg (Sig findI)
open Go.Proofs.YtnifmfdlocgefaaGreat.Nm (nameB)
open Go.Proofs.YtnifmfdlocgefaaGreat.Hs (Dist atI atI_cases atI_some)
open Go.Proofs.YtnifmfdlocgefaaGreat.Tm (Tm Store mayB keyOk ofKey standB isPl isPl_iff allPl hasB)
open Go.Proofs.YtnifmfdlocgefaaGreat.Ex (Ex np)
end Go.Proofs.YtnifmfdlocgefaaGreat.Ld

namespace Go.Proofs.YtnifmfdlocgefaaGreat.Tm
open Go.RowKit Kit Hs

end Go.Proofs.YtnifmfdlocgefaaGreat.Tm

namespace Go.Proofs.YtnifmfdlocgefaaGreat.Ld
open Go.RowKit Kit Rw
open Go.Proofs.YtnifmfdlocgefaaGreat.Sg (Sig findI)
open Go.Proofs.YtnifmfdlocgefaaGreat.Nm (nameB)
open Go.Proofs.YtnifmfdlocgefaaGreat.Hs (Dist atI atI_cases atI_some)
open Go.Proofs.YtnifmfdlocgefaaGreat.Tm (Tm Store mayB keyOk ofKey standB isPl isPl_iff allPl hasB termAt ofKey_at)
open Go.Proofs.YtnifmfdlocgefaaGreat.Ex (Ex np)
section
variable {L : List Sig} {names : List ByteArray} {ks : List (List Int)}
end
end Go.Proofs.YtnifmfdlocgefaaGreat.Ld

namespace Go.Proofs.YtnifmfdlocgefaaGreat.St
open Go.RowKit Kit Rw
open Go.Proofs.YtnifmfdlocgefaaGreat.Sg (Sig)
open Go.Proofs.YtnifmfdlocgefaaGreat.Tm (Tm Store ofKey termAt termAt_at mayB standB hasB isPl isPl_iff arity arity_at partsN isKindB)

open Go.Proofs.YtnifmfdlocgefaaGreat.Ex (turnB)
abbrev PI := Int × Int
/-- how the part k of the constructor of a number varies -/
def varyN (L : List Sig) (s : Int) (k : Nat) : UInt8 := (((L[s.toNat]?.map fun g : Sig => g.2).getD (⟨#[]⟩ : ByteArray)).data.toList)[k]?.getD 0
def pairsF (p q : Int) (v : UInt8) : List PI := (if v ≠ 45 then [(p, q)] else []) ++ (if v ≠ 43 then [(q, p)] else [])
def conF (L : List Sig) (s : Int) : Nat → List Int → List Int → List PI
  | k, a :: l, b :: m => pairsF a b (varyN L s k) ++ conF L s (k + 1) l m
  | _, _, _ => []
def projF (L : List Sig) (s t : Tm) : Int × List PI :=
  if s.k = 1 then (1, (if varyN L t.s t.p.toNat ≠ 45 then [(1, t.xs.headD 0)] else []) ++ (if varyN L t.s t.p.toNat ≠ 43 then [(t.xs.headD 0, 0)] else []))
  else if s.k = 3 ∧ s.s = t.s then (1, pairsF (s.xs[t.p.toNat]?.getD 0) (t.xs.headD 0) (varyN L t.s t.p.toNat)) else (0, [])
def stepT (L : List Sig) (x y : Int) (s t : Tm) : Int × List PI :=
  if x = y ∨ s.k = 0 ∨ t.k = 1 then (0, [])
  else if s.k = 4 then (1, [(s.xs[0]?.getD 0, y), (s.xs[1]?.getD 0, y)])
  else if t.k = 5 then (1, [(x, t.xs[0]?.getD 0), (x, t.xs[1]?.getD 0)])
  else if s.k = 2 ∨ t.k = 2 then (2, [])
  else if t.k = 6 then projF L s t
  else if s.k = 3 ∧ t.k = 3 ∧ s.s = t.s then (1, conF L s.s 0 s.xs t.xs)
  else if (s.k = 1 ∨ s.k = 3) ∧ (t.k = 0 ∨ t.k = 3) then (3, [])
  else (0, [])
def stepF (L : List Sig) (ks : List (List Int)) (x y : Int) : Int × List PI :=
  match termAt ks x, termAt ks y with
  | some s, some t => stepT L x y s t
  | _, _ => (0, [])
end Go.Proofs.YtnifmfdlocgefaaGreat.St

namespace Go.Proofs.YtnifmfdlocgefaaGreat.St
open Go.RowKit Kit Rw
open Go.Proofs.YtnifmfdlocgefaaGreat.Sg (Sig)
open Go.Proofs.YtnifmfdlocgefaaGreat.Tm (Tm Store ofKey termAt isPl isPl_iff)

open Go.Proofs.YtnifmfdlocgefaaGreat.Ex (turnB)
abbrev B3 := Bool × Bool × Bool
def onF (side : UInt8) (b : B3) : Bool := if side = 76 then b.1 else if side = 82 then b.2.1 else b.2.2
def varyT (L : List Sig) (t : Tm) (k : Nat) : UInt8 := if t.k = 3 then varyN L t.s k else if t.k = 6 then varyN L t.s t.p.toNat else 43
def allS (L : List Sig) (t : Tm) (f : Int → B3) (s : UInt8) : Nat → List Int → Bool
  | _, [] => true
  | k, x :: l => onF (turnB s (varyT L t k)) (f x) && allS L t f s (k + 1) l
def may3 (t : Tm) : B3 := (decide (¬ t.k = 5 ∧ ¬ t.k = 6), decide (¬ t.k = 4), decide (¬ t.k = 5 ∧ ¬ t.k = 6 ∧ ¬ t.k = 4))
def own3 (L : List Sig) (t : Tm) (f : Int → B3) : B3 := ((may3 t).1 && allS L t f 76 0 t.xs, (may3 t).2.1 && allS L t f 82 0 t.xs, (may3 t).2.2 && allS L t f 66 0 t.xs)
section
variable {L : List Sig} {ks : List (List Int)}
end
end Go.Proofs.YtnifmfdlocgefaaGreat.St

namespace Go.Proofs.YtnifmfdlocgefaaGreat.Ex
open Go.RowKit Kit Go.Proofs.YtnifmfdlocgefaaGreat.Nm Rw

end Go.Proofs.YtnifmfdlocgefaaGreat.Ex

namespace Go.Proofs.YtnifmfdlocgefaaGreat.Ex
open Go.RowKit Kit Rw
open Go.Proofs.YtnifmfdlocgefaaGreat.Sg (Sig findI Row refFind_any)
end Go.Proofs.YtnifmfdlocgefaaGreat.Ex

namespace Go.Proofs.YtnifmfdlocgefaaGreat.Ex
open Go.RowKit Kit Rw
open Go.Proofs.YtnifmfdlocgefaaGreat.Sg (Sig findI Row refFind_any)
end Go.Proofs.YtnifmfdlocgefaaGreat.Ex

namespace Go.Proofs.YtnifmfdlocgefaaGreat.St
open Go.RowKit Kit Rw

def cellsQ : List PI → List Value
  | [] => []
  | t :: l => .int .i64 t.1 :: .int .i64 t.2 :: cellsQ l
theorem cellsQ_len (l : List PI) : (cellsQ l).length = l.length * 2 := by
  induction l with
  | nil => rfl
  | cons s l ih => simp [cellsQ, ih]; omega
theorem cellsQ_append (a b : List PI) : cellsQ (a ++ b) = cellsQ a ++ cellsQ b := by
  induction a with
  | nil => rfl
  | cons s l ih => simp [cellsQ, ih]
theorem cellsQ_one (l : List PI) : ∀ v ∈ cellsQ l, v.oneCell' = true := by
  induction l with
  | nil => simp [cellsQ]
  | cons s l ih => simp only [cellsQ, List.mem_cons]; rintro v (rfl | rfl | h); exact rfl; exact rfl; exact ih v h
theorem cellsQ_0 (l : List PI) (i : Nat) : (cellsQ l)[i * 2]? = l[i]?.map fun s => Value.int .i64 s.1 := by
  induction l generalizing i with
  | nil => simp [cellsQ]
  | cons s l ih =>
    cases i with
    | zero => rfl
    | succ i => rw [show (i + 1) * 2 = i * 2 + 1 + 1 by omega]; simpa [cellsQ] using ih i
theorem cellsQ_1 (l : List PI) (i : Nat) : (cellsQ l)[i * 2 + 1]? = l[i]?.map fun s => Value.int .i64 s.2 := by
  induction l generalizing i with
  | nil => simp [cellsQ]
  | cons s l ih =>
    cases i with
    | zero => rfl
    | succ i => rw [show (i + 1) * 2 + 1 = i * 2 + 1 + 1 + 1 by omega]; simpa [cellsQ] using ih i
theorem pair_at {w : World} {B : Nat} {A : Option Addr} {l : List PI} (h : Rds w B A (cellsQ l)) {k : Nat} (hk : k < l.length) :
    ∃ ad, A = some ad ∧ ad.block < B ∧ w.cell? (ad.add (k * 2)) = some (.int .i64 l[k].1) ∧ w.cell? ⟨(ad.add (k * 2)).block, (ad.add (k * 2)).off + 1, none⟩ = some (.int .i64 l[k].2) := by
  obtain ⟨ad, e, hlt, hc⟩ := h (by rw [cellsQ_len]; omega)
  refine ⟨ad, e, hlt, hc _ _ (by rw [cellsQ_0, List.getElem?_eq_getElem hk]; rfl), ?_⟩
  rw [← add_succ]
  exact hc _ _ (by rw [cellsQ_1, List.getElem?_eq_getElem hk]; rfl)
theorem pairInfo : (Tryz.prog.info? 76).map (fun i => (i.zero, i.size, i.bytes)) = some (some (.agg #[.int .i64 0, .int .i64 0]), 2, 16) := by kernel_rfl
end Go.Proofs.YtnifmfdlocgefaaGreat.St

namespace Go.Proofs.YtnifmfdlocgefaaGreat.St
open Go.RowKit Kit Rw
open Go.Proofs.YtnifmfdlocgefaaGreat.Sg (Sig)
open Go.Proofs.YtnifmfdlocgefaaGreat.Tm (Tm Store ofKey termAt isPl isPl_iff)

open Go.Proofs.YtnifmfdlocgefaaGreat.Ex (turnB)
section
variable {L : List Sig} {ks : List (List Int)}
inductive Reach (L : List Sig) (ks : List (List Int)) (p : PI) : PI → Prop where
  | self : Reach L ks p p
  | step {q z : PI} : Reach L ks p q → z ∈ (stepF L ks q.1 q.2).2 → Reach L ks p z
theorem Reach.trans {p q z : PI} (h : Reach L ks p q) (k : Reach L ks q z) : Reach L ks p z := by
  induction k with
  | self => exact h
  | step _ hz ih => exact ih.step hz
/-- pairs in order -/
def ltP (a b : PI) : Prop := a.1 < b.1 ∨ (a.1 = b.1 ∧ a.2 < b.2)
instance (a b : PI) : Decidable (ltP a b) := by unfold ltP; infer_instance
end
end Go.Proofs.YtnifmfdlocgefaaGreat.St

namespace Go.Proofs.YtnifmfdlocgefaaGreat.St
open Go.RowKit Kit Rw
open Go.Proofs.YtnifmfdlocgefaaGreat.Sg (Sig)
open Go.Proofs.YtnifmfdlocgefaaGreat.Tm (Tm Store ofKey termAt isPl isPl_iff)

open Go.Proofs.YtnifmfdlocgefaaGreat.Ex (turnB)
section
variable {L : List Sig} {ks : List (List Int)}
end
end Go.Proofs.YtnifmfdlocgefaaGreat.St

namespace Go.Proofs.YtnifmfdlocgefaaGreat.St
open Go.RowKit Kit Rw

def eqP (a b : PI) : Bool := (a.1 == b.1) && (a.2 == b.2)
theorem eqP_iff (a b : PI) : eqP a b = true ↔ a = b := by
  unfold eqP
  rw [Bool.and_eq_true, beq_iff_eq, beq_iff_eq, Prod.ext_iff]
theorem int_info : ∃ i, Tryz.prog.info? 3 = some i := by
  cases h : Tryz.prog.info? 3 with
  | some i => exact ⟨i, rfl⟩
  | none => exact absurd h (by decide +kernel)
theorem run_eq_pair (w : World) (a b c d : Int) : (Op.equalIn 10000 76 (.agg #[.int .i64 a, .int .i64 b]) (.agg #[.int .i64 c, .int .i64 d])).run Tryz.prog w = .ok ((a == c) && (b == d)) w := by
  obtain ⟨i, hi⟩ := int_info
  have hc : Tryz.prog.cellsOf 3 = 1 := by kernel_rfl
  have ei : ∀ x y : Int, (Op.equalIn 9999 3 (.int .i64 x) (.int .i64 y)).run Tryz.prog w = .ok (x == y) w := fun x y => run_equalIn_int w 9998 _ .i64 .i64 x y Tryz.underlying3
  have p0 := Ex.part_int w #[.int .i64 a, .int .i64 b] 0 a rfl
  have p1 := Ex.part_int w #[.int .i64 c, .int .i64 d] 0 c rfl
  have p2 := Ex.part_int w #[.int .i64 a, .int .i64 b] 1 b rfl
  have p3 := Ex.part_int w #[.int .i64 c, .int .i64 d] 1 d rfl
  rw [show (10000 : Nat) = 9999 + 1 from rfl, run_equalIn_array w 9999 _ _ Tryz.underlying76 hi, hc, show List.range 2 = [0, 1] from rfl]
  simp only [Op.eqItems, Sem.run_bind, Nat.zero_mul, Nat.one_mul, p0, p1, Result.andThen_ok, ei]
  cases a == c
  · simp [Sem.run_pure]
  · simp only [Bool.not_true, Bool.false_eq_true, if_false, Sem.run_bind, p2, p3, Result.andThen_ok, ei]
    cases b == d <;> simp [Sem.run_pure]
theorem run_neq_pair (w : World) (x y : PI) : (binOp .neq 76 (.agg #[.int .i64 x.1, .int .i64 x.2]) (.agg #[.int .i64 y.1, .int .i64 y.2])).run Tryz.prog w = .ok (.bool (!eqP x y)) w := by
  rw [run_neq_struct, run_eq_pair]; rfl
def eqQ : List PI → List PI → Bool
  | a :: l, b :: m => eqP a b && eqQ l m
  | _, _ => true
def sameQ (l m : List PI) : Bool := decide (l.length = m.length) && eqQ l m
theorem eqQ_at (l m : List PI) (k : Nat) (h : k < l.length) (h' : k < m.length) : eqQ (l.drop k) (m.drop k) = (eqP l[k] m[k] && eqQ (l.drop (k + 1)) (m.drop (k + 1))) := by
  rw [List.drop_eq_getElem_cons h, List.drop_eq_getElem_cons h']; rfl
theorem eqQ_end (l m : List PI) (k : Nat) (h : l.length ≤ k) : eqQ (l.drop k) (m.drop k) = true := by
  rw [List.drop_eq_nil_of_le h]; rfl
theorem eqQ_iff : ∀ (l m : List PI), l.length = m.length → (eqQ l m = true ↔ l = m)
  | [], [], _ => by simp [eqQ]
  | a :: l, b :: m, h => by
    rw [eqQ, Bool.and_eq_true, eqP_iff, eqQ_iff l m (by simpa using h)]
    simp
theorem sameQ_iff (l m : List PI) : sameQ l m = true ↔ l = m := by
  unfold sameQ
  rw [Bool.and_eq_true, decide_eq_true_eq]
  constructor
  · rintro ⟨h, g⟩; exact (eqQ_iff l m h).1 g
  · rintro rfl; exact ⟨rfl, (eqQ_iff l l rfl).2 rfl⟩
set_option maxRecDepth 100000 in
set_option maxHeartbeats 2000000 in
theorem refPairsEq_any (A B : Option Addr) (n c m d : Nat) (l r : List PI) (w : World) (hn : n = l.length) (hm : m = r.length) (hr : Rds w w.heap.size A (cellsQ l)) (hr' : Rds w w.heap.size B (cellsQ r)) (hl : l.length ≤ 1000000) :
    Calls Tryz.prog 25 #[.slice A n c, .slice B m d] w fun e w' => e = .returned (.bool (sameQ l r)) ∧ Q w w' := by
  subst hn hm
  have HR := Lib.hid hr
  have HR' := Lib.hid hr'
  clear hr hr'
  by_cases hne : l.length = r.length
  · have e0 : ((l.length : Int) != (r.length : Int)) = false := by rw [bne_eq_false_iff_eq]; omega
    have HN := Lib.hid hne
    have HF0 : Hid (sameQ l r = eqQ l r) := by unfold Hid sameQ; rw [decide_eq_true hne, Bool.true_and]
    clear hne
    go_enter Tryz.func25, Tryz.ntmps25
    go_wp2_with fail
    go_loopw [5] (fun iv wr => ∃ k : Nat, k ≤ l.length ∧ iv = .int .i64 k ∧ Hid (eqQ l r = eqQ (l.drop k) (r.drop k)) ∧ Hid (Q w wr)) (fun iv _ => l.length - (intOf iv).toNat)
    case atStart => exact ⟨0, Nat.zero_le _, rfl, Lib.hid (by simp), Lib.hid (Q.refl w)⟩
    case round =>
      obtain ⟨k, hk, rfl, HD, HQ⟩ := hrel
      by_cases hlt : k < l.length
      · have hlt' : k < r.length := by have := HN.out; omega
        obtain ⟨ad, rfl, hb, c0, c1⟩ := pair_at (HR.out.q HQ.out) hlt
        obtain ⟨ad', rfl, hb', c0', c1'⟩ := pair_at (HR'.out.q HQ.out) hlt'
        have HE' := fun w => run_neq_pair w l[k] r[k]
        have HD2 := HD.out.trans (eqQ_at l r k hlt hlt')
        have j1 : (k : Int) < (l.length : Int) := by omega
        have j2 : (k : Int) < (r.length : Int) := by omega
        have j0 : (0 : Int) ≤ (k : Int) := Int.natCast_nonneg _
        clear HD
        generalize l[k] = z at *
        generalize r[k] = z' at *
        cases he : eqP z z'
        · rw [he] at HE' HD2
          have HD3 := Lib.hid HD2
          rw [Bool.false_and] at HD3
          clear he HD2
          go_wp2_with fail
          go_quiet (fail)
          go_wp2_with fail
          go_ret
          exact ⟨by rw [HF0.out, HD3.out]; rfl, by first | exact HQ.out.drew | exact HQ.out.drewN _⟩
        · rw [he] at HE' HD2
          have HD3 := Lib.hid HD2
          rw [Bool.true_and] at HD3
          clear he HD2
          go_wp2_with fail
          go_quiet (fail)
          go_wp2_with fail
          go_roundw
          case rel => exact ⟨k + 1, by omega, by go_num, HD3, Lib.hid (by first | exact HQ.out.drew | exact HQ.out.drewN _)⟩
          case measure => simp [intOf]; omega
      · have HD2 : Hid (eqQ l r = true) := by
          unfold Hid
          rw [HD.out, eqQ_end _ _ _ (by omega)]
        go_wp2_with fail
        go_ret
        exact ⟨by rw [HF0.out, HD2.out]; rfl, HQ.out⟩
  · have e0 : ((l.length : Int) != (r.length : Int)) = true := by rw [bne_iff_ne]; omega
    have HF0 : Hid (sameQ l r = false) := by unfold Hid sameQ; rw [decide_eq_false hne, Bool.false_and]
    clear hne
    go_enter Tryz.func25, Tryz.ntmps25
    go_wp2_with fail
    go_ret
    exact ⟨by rw [HF0.out]; rfl, Q.refl w⟩
end Go.Proofs.YtnifmfdlocgefaaGreat.St

namespace Go.Proofs.YtnifmfdlocgefaaGreat.Ig
open Go.RowKit Kit Tr Uf
open Go.Proofs.YtnifmfdlocgefaaGreat.Hs (Keys Ints BoxT layI)
open Go.Proofs.YtnifmfdlocgefaaGreat.St (cellsQ cellsQ_append cellsQ_len cellsQ_one pairInfo PI)
set_option maxRecDepth 100000 in
set_option maxHeartbeats 4000000 in
theorem allBelow12 (R V : List Int) (A S Av D E Pa Ta Br : Option Addr) (N : List Note) (M : List Int) (n c ms d nv cv n2 k2 n3 k3 cp ct np nt nb cb : Nat) (r : Value) (ks : List (List Int)) (row : List Int) (y : Int) (w : World) (hn : n = ks.length) (hm : ms = (layI ks).length) (hk : Keys w w.heap.size A ks) (hS : Ints w w.heap.size S (layI ks)) (hO : OkS ks)
    (hnv : nv = V.length) (hv : Rd w ⟨V, N, M⟩ Av cv D k2 E k3) (h2 : n2 = N.length) (h3 : n3 = M.length) (hC : Cl R V) (hlv : V.length ≤ 1000000) (hp : np = V.length) (ht : nt = V.length) (hA : allV ks V.length = true) (hnb : nb = row.length) (hrow : Tr.Rds w w.heap.size Br (cellsI row)) (hrl : row.length ≤ 1000000) :
    Calls Tryz.prog 130 #[.agg #[.slice A n c, .slice S ms d], .agg #[r, .slice Av nv cv, .slice D n2 k2, .slice E n3 k3, .slice Pa np cp, .slice Ta nt ct], .slice Br nb cb, .int .i64 y] w fun e w' => ∃ v, e = .returned v ∧ w'.ownsRow w.heap.size 76 2 v row.length (cellsQ (row.map fun x => (repV ks V x, y))) ∧ Q w w' := by
  subst hn hm hnv h2 h3 hp ht hnb
  obtain ⟨i0, hi, hz0, hz1, hz2⟩ := info_parts pairInfo
  have Hi := Lib.hid hi
  have Hz0 := Lib.hid hz0
  have Hz1 := Lib.hid hz1
  have Hz2 := Lib.hid hz2
  clear hi hz0 hz1 hz2
  have q0 := ((Q.refl w).alloc (Obj.cells #[.slice A ks.length c, .slice S (layI ks).length d] 26)).alloc (Obj.cells #[r, .slice Av V.length cv, .slice D N.length k2, .slice E M.length k3, .slice Pa V.length cp, .slice Ta V.length ct] 31)
  have HB := Lib.hid ((BoxT.new w (.slice A ks.length c) (.slice S (layI ks).length d) 26).q ((Q.refl _).alloc (Obj.cells #[r, .slice Av V.length cv, .slice D N.length k2, .slice E M.length k3, .slice Pa V.length cp, .slice Ta V.length ct] 31)))
  have X := Box6.new (w.alloc (Obj.cells #[.slice A ks.length c, .slice S (layI ks).length d] 26)) r (.slice Av V.length cv) (.slice D N.length k2) (.slice E M.length k3) (.slice Pa V.length cp) (.slice Ta V.length ct) 31
  rw [World.size_alloc] at X
  have HG := Lib.hid X
  have HQ0 := Lib.hid q0
  have HRow := Lib.hid (hrow.q q0)
  have CR : Hid (∀ (x : Int) (U : World), Q w U → Calls Tryz.prog 193 #[.agg #[.slice A ks.length c, .slice S (layI ks).length d], .agg #[r, .slice Av V.length cv, .slice D N.length k2, .slice E M.length k3, .slice Pa V.length cp, .slice Ta V.length ct], .int .i64 x] U fun e w' => e = .returned (.int .i64 (repV ks V x)) ∧ Q U w') := fun x U q =>
    rep12 R V A S Av D E Pa Ta N M _ c _ d _ cv _ k2 _ k3 cp ct _ _ r ks x U rfl rfl ((hk.q (Nat.le_refl _) q).more q.size) ((hS.q (Nat.le_refl _) q).more q.size) hO rfl (hv.q q) rfl rfl hC hlv rfl rfl hA
  clear hk hS hO hv hC hlv hA hrow X q0
  go_enter Tryz.func130, Tryz.ntmps130
  go_wp2_with fail
  generalize (w.alloc (Obj.cells #[.slice A ks.length c, .slice S (layI ks).length d] 26)).alloc (Obj.cells #[r, .slice Av V.length cv, .slice D N.length k2, .slice E M.length k3, .slice Pa V.length cp, .slice Ta V.length ct] 31) = W0 at *
  go_loopw [9, 14] (fun ov i wr => ∃ k : Nat, k ≤ row.length ∧ i = .int .i64 k ∧ Hid (wr.ownsRow W0.heap.size 76 2 ov k (cellsQ ((row.take k).map fun x => (repV ks V x, y)))) ∧ Hid (Q W0 wr)) (fun _ i _ => row.length - (intOf i).toNat)
  case atStart => exact ⟨0, Nat.zero_le _, rfl, Lib.hid (World.ownsRow_nil _ _ _ _), Lib.hid (Q.refl _)⟩
  case round =>
    obtain ⟨k, hk, rfl, HR, HQ⟩ := hrel
    by_cases hlt : k < row.length
    · obtain ⟨ad, rfl, hadb, a0⟩ := (HRow.out.q HQ.out).int_at hlt
      have HBr := Lib.hid (HB.out.q HQ.out)
      have HGr := Lib.hid (HG.out.q HQ.out)
      have b0 := HBr.out.c0
      have b1' := HBr.out.c1
      have g0 := HGr.out.c0
      have g1 := HGr.out.c1
      have g2 := HGr.out.c2
      have g3 := HGr.out.c3
      have g4 := HGr.out.c4
      have g5 := HGr.out.c5
      have C := Lib.hid (CR.out row[k] wr (HQ0.out.trans HQ.out))
      have HT : Hid (cellsQ ((row.take k).map fun x => (repV ks V x, y)) ++ [.int .i64 (repV ks V row[k]), .int .i64 y] = cellsQ ((row.take (k + 1)).map fun x => (repV ks V x, y))) := by
        unfold Hid
        rw [List.take_succ_eq_append_getElem hlt, List.map_append, cellsQ_append]; rfl
      clear hadb
      go_wp2_with (first
        | (go_at_call 193; refine C.out.mono ?_; rintro e w3 ⟨rfl, q3⟩; have qa := q3.alloc (Obj.cells #[.int .i64 (repV ks V row[k]), .int .i64 y] 76); have HOw := Lib.hid (Tr.row_kept HR.out qa (Nat.le_refl _)); have HSr : Hid (Src (w3.alloc (Obj.cells #[.int .i64 (repV ks V row[k]), .int .i64 y] 76)) (some ⟨w3.heap.size, 0, none⟩) [.int .i64 (repV ks V row[k]), .int .i64 y]) := Lib.hid (src_block (heap_alloc_new w3 (Obj.cells #[.int .i64 (repV ks V row[k]), .int .i64 y] 76))); have HQa := Lib.hid (HQ.out.trans qa); clear b0 b1' g0 g1 g2 g3 g4 g5 C q3 qa a0)
        | (at_builtin; refine wpList_append_src _ rfl (.tmp 18) (.tmp 25) _ rfl W0.heap.size 76 i0 _ 2 16 Tryz.underlying37 Hi.out Hz0.out Hz1.out Hz2.out rfl (by omega) _ k _ rfl HOw.out (some ⟨w3.heap.size, 0, none⟩) 1 1 [.int .i64 (repV ks V row[k]), .int .i64 y] rfl rfl HSr.out (by simp [Value.oneCell']) (by unfold maxLen; omega) (by omega) HQa.out.size ?_; intro v5 w5 own5 gr5 _))
      have HQ5 := Lib.hid (HQa.out.grown gr5 HQa.out.size (fun b hb => (HOw.out.lt b hb).1))
      rw [HT.out] at own5
      have HR5 := Lib.hid own5
      clear own5 gr5
      go_roundw
      case rel => exact ⟨k + 1, by omega, by go_num, HR5, HQ5⟩
      case measure => simp [intOf]; omega
    · obtain rfl : k = row.length := by omega
      rw [List.take_length] at HR
      go_wp2_with fail
      go_ret
      exact ⟨_, rfl, Tr.row_kept HR.out (Q.refl _) HQ0.out.size, HQ0.out.trans HQ.out⟩

set_option maxRecDepth 100000 in
set_option maxHeartbeats 4000000 in
theorem allAbove12 (R V : List Int) (A S Av D E Pa Ta Br : Option Addr) (N : List Note) (M : List Int) (n c ms d nv cv n2 k2 n3 k3 cp ct np nt nb cb : Nat) (r : Value) (ks : List (List Int)) (row : List Int) (y : Int) (w : World) (hn : n = ks.length) (hm : ms = (layI ks).length) (hk : Keys w w.heap.size A ks) (hS : Ints w w.heap.size S (layI ks)) (hO : OkS ks)
    (hnv : nv = V.length) (hv : Rd w ⟨V, N, M⟩ Av cv D k2 E k3) (h2 : n2 = N.length) (h3 : n3 = M.length) (hC : Cl R V) (hlv : V.length ≤ 1000000) (hp : np = V.length) (ht : nt = V.length) (hA : allV ks V.length = true) (hnb : nb = row.length) (hrow : Tr.Rds w w.heap.size Br (cellsI row)) (hrl : row.length ≤ 1000000) :
    Calls Tryz.prog 131 #[.agg #[.slice A n c, .slice S ms d], .agg #[r, .slice Av nv cv, .slice D n2 k2, .slice E n3 k3, .slice Pa np cp, .slice Ta nt ct], .int .i64 y, .slice Br nb cb] w fun e w' => ∃ v, e = .returned v ∧ w'.ownsRow w.heap.size 76 2 v row.length (cellsQ (row.map fun x => (y, repV ks V x))) ∧ Q w w' := by
  subst hn hm hnv h2 h3 hp ht hnb
  obtain ⟨i0, hi, hz0, hz1, hz2⟩ := info_parts pairInfo
  have Hi := Lib.hid hi
  have Hz0 := Lib.hid hz0
  have Hz1 := Lib.hid hz1
  have Hz2 := Lib.hid hz2
  clear hi hz0 hz1 hz2
  have q0 := ((Q.refl w).alloc (Obj.cells #[.slice A ks.length c, .slice S (layI ks).length d] 26)).alloc (Obj.cells #[r, .slice Av V.length cv, .slice D N.length k2, .slice E M.length k3, .slice Pa V.length cp, .slice Ta V.length ct] 31)
  have HB := Lib.hid ((BoxT.new w (.slice A ks.length c) (.slice S (layI ks).length d) 26).q ((Q.refl _).alloc (Obj.cells #[r, .slice Av V.length cv, .slice D N.length k2, .slice E M.length k3, .slice Pa V.length cp, .slice Ta V.length ct] 31)))
  have X := Box6.new (w.alloc (Obj.cells #[.slice A ks.length c, .slice S (layI ks).length d] 26)) r (.slice Av V.length cv) (.slice D N.length k2) (.slice E M.length k3) (.slice Pa V.length cp) (.slice Ta V.length ct) 31
  rw [World.size_alloc] at X
  have HG := Lib.hid X
  have HQ0 := Lib.hid q0
  have HRow := Lib.hid (hrow.q q0)
  have CR : Hid (∀ (x : Int) (U : World), Q w U → Calls Tryz.prog 193 #[.agg #[.slice A ks.length c, .slice S (layI ks).length d], .agg #[r, .slice Av V.length cv, .slice D N.length k2, .slice E M.length k3, .slice Pa V.length cp, .slice Ta V.length ct], .int .i64 x] U fun e w' => e = .returned (.int .i64 (repV ks V x)) ∧ Q U w') := fun x U q =>
    rep12 R V A S Av D E Pa Ta N M _ c _ d _ cv _ k2 _ k3 cp ct _ _ r ks x U rfl rfl ((hk.q (Nat.le_refl _) q).more q.size) ((hS.q (Nat.le_refl _) q).more q.size) hO rfl (hv.q q) rfl rfl hC hlv rfl rfl hA
  clear hk hS hO hv hC hlv hA hrow X q0
  go_enter Tryz.func131, Tryz.ntmps131
  go_wp2_with fail
  generalize (w.alloc (Obj.cells #[.slice A ks.length c, .slice S (layI ks).length d] 26)).alloc (Obj.cells #[r, .slice Av V.length cv, .slice D N.length k2, .slice E M.length k3, .slice Pa V.length cp, .slice Ta V.length ct] 31) = W0 at *
  go_loopw [9, 14] (fun ov i wr => ∃ k : Nat, k ≤ row.length ∧ i = .int .i64 k ∧ Hid (wr.ownsRow W0.heap.size 76 2 ov k (cellsQ ((row.take k).map fun x => (y, repV ks V x)))) ∧ Hid (Q W0 wr)) (fun _ i _ => row.length - (intOf i).toNat)
  case atStart => exact ⟨0, Nat.zero_le _, rfl, Lib.hid (World.ownsRow_nil _ _ _ _), Lib.hid (Q.refl _)⟩
  case round =>
    obtain ⟨k, hk, rfl, HR, HQ⟩ := hrel
    by_cases hlt : k < row.length
    · obtain ⟨ad, rfl, hadb, a0⟩ := (HRow.out.q HQ.out).int_at hlt
      have HBr := Lib.hid (HB.out.q HQ.out)
      have HGr := Lib.hid (HG.out.q HQ.out)
      have b0 := HBr.out.c0
      have b1' := HBr.out.c1
      have g0 := HGr.out.c0
      have g1 := HGr.out.c1
      have g2 := HGr.out.c2
      have g3 := HGr.out.c3
      have g4 := HGr.out.c4
      have g5 := HGr.out.c5
      have C := Lib.hid (CR.out row[k] wr (HQ0.out.trans HQ.out))
      have HT : Hid (cellsQ ((row.take k).map fun x => (y, repV ks V x)) ++ [.int .i64 y, .int .i64 (repV ks V row[k])] = cellsQ ((row.take (k + 1)).map fun x => (y, repV ks V x))) := by
        unfold Hid
        rw [List.take_succ_eq_append_getElem hlt, List.map_append, cellsQ_append]; rfl
      clear hadb
      go_wp2_with (first
        | (go_at_call 193; refine C.out.mono ?_; rintro e w3 ⟨rfl, q3⟩; have qa := q3.alloc (Obj.cells #[.int .i64 y, .int .i64 (repV ks V row[k])] 76); have HOw := Lib.hid (Tr.row_kept HR.out qa (Nat.le_refl _)); have HSr : Hid (Src (w3.alloc (Obj.cells #[.int .i64 y, .int .i64 (repV ks V row[k])] 76)) (some ⟨w3.heap.size, 0, none⟩) [.int .i64 y, .int .i64 (repV ks V row[k])]) := Lib.hid (src_block (heap_alloc_new w3 (Obj.cells #[.int .i64 y, .int .i64 (repV ks V row[k])] 76))); have HQa := Lib.hid (HQ.out.trans qa); clear b0 b1' g0 g1 g2 g3 g4 g5 C q3 qa a0)
        | (at_builtin; refine wpList_append_src _ rfl (.tmp 18) (.tmp 25) _ rfl W0.heap.size 76 i0 _ 2 16 Tryz.underlying37 Hi.out Hz0.out Hz1.out Hz2.out rfl (by omega) _ k _ rfl HOw.out (some ⟨w3.heap.size, 0, none⟩) 1 1 [.int .i64 y, .int .i64 (repV ks V row[k])] rfl rfl HSr.out (by simp [Value.oneCell']) (by unfold maxLen; omega) (by omega) HQa.out.size ?_; intro v5 w5 own5 gr5 _))
      have HQ5 := Lib.hid (HQa.out.grown gr5 HQa.out.size (fun b hb => (HOw.out.lt b hb).1))
      rw [HT.out] at own5
      have HR5 := Lib.hid own5
      clear own5 gr5
      go_roundw
      case rel => exact ⟨k + 1, by omega, by go_num, HR5, HQ5⟩
      case measure => simp [intOf]; omega
    · obtain rfl : k = row.length := by omega
      rw [List.take_length] at HR
      go_wp2_with fail
      go_ret
      exact ⟨_, rfl, Tr.row_kept HR.out (Q.refl _) HQ0.out.size, HQ0.out.trans HQ.out⟩
end Go.Proofs.YtnifmfdlocgefaaGreat.Ig

namespace Go.Proofs.YtnifmfdlocgefaaGreat.Ig
open Go.RowKit Kit Tr Uf
open Go.Proofs.YtnifmfdlocgefaaGreat.Hs (Keys Ints BoxT KeysP IntsP layI)
open Go.Proofs.YtnifmfdlocgefaaGreat.St (cellsQ cellsQ_append cellsQ_len cellsQ_one pairInfo PI)
/-- what comes of the rows of who is gone -/
def comeV (ks : List (List Int)) (V : List Int) (p t : List Int) (f : Int) : List PI := p.map (fun z => (repV ks V z, f)) ++ t.map (fun z => (f, repV ks V z))
/-- a row of who may be there -/
def rowG (P : List (List Int)) (g : Nat) : List Int := P.getD g []
/-- One's answer: the graph, and what comes -/
def OneAns (R : List Int) (c : Cells) (P T : List (List Int)) (l : List PI) (w : World) (e : Ending) (w' : World) : Prop :=
  ∃ F A D E Pa Ta cr k1 k2 k3 kp kt v, e = .returned (.tuple #[gvP R c P T F A D E Pa Ta cr k1 k2 k3 kp kt, v]) ∧ GRP w' (fun b => w.heap.size ≤ b) R c P T F A D E Pa Ta cr k1 k2 k3 kp kt ∧ w'.ownsRow w.heap.size 76 2 v l.length (cellsQ l) ∧ Q w w'
theorem oneans {w w' : World} {R : List Int} {c : Cells} {P T : List (List Int)} {F A D E Pa Ta : Option Addr} {cr k1 k2 k3 kp kt : Nat} {l : List PI} {v : Value} (h : GRP w' (fun b => w.heap.size ≤ b) R c P T F A D E Pa Ta cr k1 k2 k3 kp kt) (hv : w'.ownsRow w.heap.size 76 2 v l.length (cellsQ l)) (q : Q w w') : OneAns R c P T l w (.returned (.tuple #[gvP R c P T F A D E Pa Ta cr k1 k2 k3 kp kt, v])) w' := ⟨F, A, D, E, Pa, Ta, cr, k1, k2, k3, kp, kt, v, rfl, h, hv, q⟩
/-- One, in the midst: the boxes, the copy -/
structure OneS (w W : World) (R : List Int) (P T : List (List Int)) (a1 a2 f1 f2 f3 f4 f5 f6 u1 u2 u3 : Value) (np nt g0 gp ep gs es O Br : Nat) : Prop where
  ba : BoxT W w.heap.size a1 a2
  bg : Box6 W (w.heap.size + 1) f1 f2 f3 f4 f5 f6
  res : BoxW W Br (.slice none 0 0) (.slice none 0 0) (.slice none 0 0) (.slice none 0 0) (.slice none 0 0) (.slice none 0 0)
  out : BoxW W O (.slice (some ⟨g0, 0, none⟩) R.length R.length) u1 u2 u3 (.slice (some ⟨gp, 0, none⟩) np np) (.slice (some ⟨gs, 0, none⟩) nt nt)
  r : OwnC W g0 (cellsI R)
  tp : Tab W gp ep P
  tt : Tab W gs es T
  ord : Br = w.heap.size + 2 ∧ w.heap.size + 3 ≤ g0 ∧ g0 < gp ∧ ep ≤ gs ∧ es ≤ O
  q : Q w W
section
variable {w W W' : World} {R : List Int} {P T : List (List Int)} {a1 a2 f1 f2 f3 f4 f5 f6 u1 u2 u3 : Value} {np nt g0 gp ep gs es O Br : Nat}
theorem OneS.next (h : OneS w W R P T a1 a2 f1 f2 f3 f4 f5 f6 u1 u2 u3 np nt g0 gp ep gs es O Br) (q : Q W W') : OneS w W' R P T a1 a2 f1 f2 f3 f4 f5 f6 u1 u2 u3 np nt g0 gp ep gs es O Br :=
  ⟨h.ba.q q, h.bg.q q, h.res.q q, h.out.q q, h.r.q q, h.tp.q q, h.tt.q q, h.ord, h.q.trans q⟩
theorem boxT_far {B g : Nat} {a b : Value} (h : BoxT W B a b) (hg : W.grownBy W' (some g)) (hne : g ≠ B) : BoxT W' B a b := by
  have hb : W'.heap[B]? = W.heap[B]? := hg.block B h.lt (fun e => by injection e with e; exact hne e.symm)
  have hc : ∀ i, W'.cell? ⟨B, i, none⟩ = W.cell? ⟨B, i, none⟩ := fun i => World.cell?_of_block (a := ⟨B, i, none⟩) hb
  exact ⟨(hc 0).trans h.c0, (hc 1).trans h.c1, Nat.lt_of_lt_of_le h.lt hg.size⟩
theorem ne_some {a b : Nat} (h : a ≠ b) : (some a : Option Nat) ≠ some b := fun e => by injection e with e; exact h e
theorem BoxW.set3 {B : Nat} {a b c d e f : Value} (h : BoxW W B a b c d e f) (y z u : Value) : BoxW (((W.setCell ⟨B, 1, none⟩ y).setCell ⟨B, 2, none⟩ z).setCell ⟨B, 3, none⟩ u) B a y z u e f :=
  BoxW.own.2 (((((BoxW.own.1 h).set (s := 1) (by simp) y).set (s := 2) (by simp) z).set (s := 3) (by simp) u))
theorem set3_grown12 (W : World) (B : Nat) (b c d : Value) : W.grownBy (((W.setCell ⟨B, 1, none⟩ b).setCell ⟨B, 2, none⟩ c).setCell ⟨B, 3, none⟩ d) (some B) :=
  grown_trans (grown_trans (setCell_grown _ _ _ _) (setCell_grown _ _ _ _)) (setCell_grown _ _ _ _)
theorem OneS.lts (h : OneS w W R P T a1 a2 f1 f2 f3 f4 f5 f6 u1 u2 u3 np nt g0 gp ep gs es O Br) : gp < gs ∧ gs < O ∧ O < W.heap.size ∧ w.heap.size + 3 < gp := by
  have := h.ord
  have := h.tp.lt
  have := h.tt.lt
  have := h.out.c.lt
  omega
/-- the joined classes come into the copy -/
theorem OneS.setU (h : OneS w W R P T a1 a2 f1 f2 f3 f4 f5 f6 u1 u2 u3 np nt g0 gp ep gs es O Br) (v1 v2 v3 : Value) : OneS w (((W.setCell ⟨O, 1, none⟩ v1).setCell ⟨O, 2, none⟩ v2).setCell ⟨O, 3, none⟩ v3) R P T a1 a2 f1 f2 f3 f4 f5 f6 v1 v2 v3 np nt g0 gp ep gs es O Br := by
  have gr := set3_grown12 W O v1 v2 v3
  have h1 := h.ord
  have h2 := h.lts
  exact ⟨boxT_far h.ba gr (by omega), h.bg.grown gr (by omega), h.res.grown gr (by omega), h.out.set3 _ _ _, h.r.grown gr (ne_some (by omega)), h.tp.far gr (.inr (by omega)), h.tt.far gr (.inr (by omega)), h1, grown_q gr h.q (by omega)⟩
/-- who is gone has no row below -/
theorem OneS.setP (h : OneS w W R P T a1 a2 f1 f2 f3 f4 f5 f6 u1 u2 u3 np nt g0 gp ep gs es O Br) {j : Nat} (hj : j < P.length) : OneS w (W.setCell ⟨gp, j, none⟩ (.slice none 0 0)) R (P.set j []) T a1 a2 f1 f2 f3 f4 f5 f6 u1 u2 u3 np nt g0 gp ep gs es O Br := by
  have gr := setCell_grown W gp j (.slice none 0 0)
  have h1 := h.ord
  have h2 := h.lts
  exact ⟨boxT_far h.ba gr (by omega), h.bg.grown gr (by omega), h.res.grown gr (by omega), h.out.grown gr (by omega), h.r.grown gr (ne_some (by omega)), h.tp.set hj (RowI.nil _ _ _), h.tt.far gr (.inl (by omega)), h1, grown_q gr h.q (by omega)⟩
theorem OneS.setT (h : OneS w W R P T a1 a2 f1 f2 f3 f4 f5 f6 u1 u2 u3 np nt g0 gp ep gs es O Br) {j : Nat} (hj : j < T.length) : OneS w (W.setCell ⟨gs, j, none⟩ (.slice none 0 0)) R P (T.set j []) a1 a2 f1 f2 f3 f4 f5 f6 u1 u2 u3 np nt g0 gp ep gs es O Br := by
  have gr := setCell_grown W gs j (.slice none 0 0)
  have h1 := h.ord
  have h2 := h.lts
  exact ⟨boxT_far h.ba gr (by omega), h.bg.grown gr (by omega), h.res.grown gr (by omega), h.out.grown gr (by omega), h.r.grown gr (ne_some (by omega)), h.tp.far gr (.inr (by omega)), h.tt.set hj (RowI.nil _ _ _), h1, grown_q gr h.q (by omega)⟩
/-- what it reads as -/
theorem OneS.grp {c : Cells} {A3 D3 E3 : Option Addr} {l1 l2 l3 B2 cp ct : Nat} {K : Nat → Prop} (h : OneS w W R P T a1 a2 f1 f2 f3 f4 f5 f6 u1 u2 u3 np nt g0 gp ep gs es O Br) (hO : OwnO W B2 A3 (cellsI c.V) ∧ OwnO W B2 D3 (cellsP c.N) ∧ OwnO W B2 E3 (cellsI c.M) ∧ c.V.length ≤ l1 ∧ c.N.length ≤ l2 ∧ c.M.length ≤ l3) (hB : w.heap.size + 3 ≤ B2) (hK : ∀ b, w.heap.size + 3 ≤ b → K b) (hp : P.length ≤ cp) (ht : T.length ≤ ct) :
    GRP W K R c P T (some ⟨g0, 0, none⟩) A3 D3 E3 (some ⟨gp, 0, none⟩) (some ⟨gs, 0, none⟩) R.length l1 l2 l3 cp ct := by
  have h1 := h.ord
  have h2 := h.lts
  obtain ⟨oA, oD, oE, e1, e2, e3⟩ := hO
  exact ⟨.of_own h.r (hK _ (by omega)), .of_owno oA (fun b hb => hK b (by omega)), .of_owno oD (fun b hb => hK b (by omega)), .of_owno oE (fun b hb => hK b (by omega)), h.tp.p (fun b h1 _ => hK b (by omega)), h.tt.p (fun b h1 _ => hK b (by omega)), Nat.le_refl _, e1, e2, e3, hp, ht⟩
end
theorem onos {w3 W' : World} {c' : Cells} {A3 D3 E3 : Option Addr} {l1 l2 l3 B2 g : Nat} (h : OwnO w3 B2 A3 (cellsI c'.V) ∧ OwnO w3 B2 D3 (cellsP c'.N) ∧ OwnO w3 B2 E3 (cellsI c'.M) ∧ c'.V.length ≤ l1 ∧ c'.N.length ≤ l2 ∧ c'.M.length ≤ l3) (gr : w3.grownBy W' (some g)) (hg : g < B2) : OwnO W' B2 A3 (cellsI c'.V) ∧ OwnO W' B2 D3 (cellsP c'.N) ∧ OwnO W' B2 E3 (cellsI c'.M) ∧ c'.V.length ≤ l1 ∧ c'.N.length ≤ l2 ∧ c'.M.length ≤ l3 :=
  ⟨OwnO.far h.1 gr hg, OwnO.far h.2.1 gr hg, OwnO.far h.2.2.1 gr hg, h.2.2.2⟩
theorem onoq {w3 W' : World} {c' : Cells} {A3 D3 E3 : Option Addr} {l1 l2 l3 B2 : Nat} (h : OwnO w3 B2 A3 (cellsI c'.V) ∧ OwnO w3 B2 D3 (cellsP c'.N) ∧ OwnO w3 B2 E3 (cellsI c'.M) ∧ c'.V.length ≤ l1 ∧ c'.N.length ≤ l2 ∧ c'.M.length ≤ l3) (q : Q w3 W') : OwnO W' B2 A3 (cellsI c'.V) ∧ OwnO W' B2 D3 (cellsP c'.N) ∧ OwnO W' B2 E3 (cellsI c'.M) ∧ c'.V.length ≤ l1 ∧ c'.N.length ≤ l2 ∧ c'.M.length ≤ l3 := by
  have go : ∀ {A : Option Addr} {cs : List Value}, OwnO w3 B2 A cs → OwnO W' B2 A cs := fun h h0 => by
    obtain ⟨g, e, hg, ho⟩ := h h0
    exact ⟨g, e, hg, ho.q q⟩
  exact ⟨go h.1, go h.2.1, go h.2.2.1, h.2.2.2⟩

theorem far_cell {U V : World} {B : Nat} {p : Addr} {v : Value} (gr : U.grownBy V (some B)) (h : U.cell? p = some v) (hne : p.block ≠ B) (hlt : p.block < U.heap.size) : V.cell? p = some v := by
  have := gr.block p.block hlt (fun e => by injection e with e; exact hne e)
  simp only [World.cell?, this] at h ⊢
  exact h
end Go.Proofs.YtnifmfdlocgefaaGreat.Ig
