/-
  What the proofs lean on, part 4 of 11.
-/
import Derived.Test.YtjehccemilefgaaPa
import Derived.Test.YtjehccemilefgaaPb
import Derived.Test.YtjehccemilefgaaPc
import Derived.Laws.StructEq
import Derived.ChangeKeysEq
import Derived.Deep.RegionHeld
import Derived.Laws.EntriesVeiled
import Derived.Deep.RegionHeld3
import Derived.Deep.QuietTactic
import Derived.BigQuiet
namespace Go.Proofs.Ytjehccemilefgaa.Nm
open Go.RowKit Kit

def inB (lo hi c : Int) : Bool := decide (lo ≤ c) && decide (c ≤ hi)

def goesB (c : Int) : Bool := inB 97 122 c || inB 65 90 c || inB 48 57 c || (c == 95)

theorem take_snoc (s : ByteArray) (k : Nat) (h : k < s.size) : s.data.toList.take (k + 1) = s.data.toList.take k ++ [s[k]] := by
  rw [List.take_succ_eq_append_getElem (by simpa using h)]; rfl

def restB (l : List UInt8) : Bool := (l.drop 1).all fun c => goesB c.toNat
/-- a name whose first byte lies from lo to hi -/
def nameB (lo hi : Int) (l : List UInt8) : Bool :=
  match l with
  | [] => false
  | c :: _ => decide (l.length ≤ 20) && inB lo hi c.toNat && restB l

theorem small_any (c : Int) (w : World) :
    Calls Try.prog 63 #[.int .u8 c] w fun e w' => e = .returned (.bool (inB 97 122 c)) ∧ w = w' := by
  by_cases h : 97 ≤ c
  · have d : decide (97 ≤ c) = true := by simpa using h
    have HR : Hid (inB 97 122 c = decide (c ≤ 122)) := by unfold Hid inB; rw [d]; rfl
    go_enter Try.func63, Try.ntmps63
    go_wp2_with fail
    go_ret
    exact ⟨by rw [HR.out]; rfl, rfl⟩
  · have d : decide (97 ≤ c) = false := by simpa using h
    have HR : Hid (inB 97 122 c = false) := by unfold Hid inB; rw [d]; rfl
    go_enter Try.func63, Try.ntmps63
    go_wp2_with fail
    go_ret
    exact ⟨by rw [HR.out]; rfl, rfl⟩
theorem big_any (c : Int) (w : World) :
    Calls Try.prog 83 #[.int .u8 c] w fun e w' => e = .returned (.bool (inB 65 90 c)) ∧ w = w' := by
  by_cases h : 65 ≤ c
  · have d : decide (65 ≤ c) = true := by simpa using h
    have HR : Hid (inB 65 90 c = decide (c ≤ 90)) := by unfold Hid inB; rw [d]; rfl
    go_enter Try.func83, Try.ntmps83
    go_wp2_with fail
    go_ret
    exact ⟨by rw [HR.out]; rfl, rfl⟩
  · have d : decide (65 ≤ c) = false := by simpa using h
    have HR : Hid (inB 65 90 c = false) := by unfold Hid inB; rw [d]; rfl
    go_enter Try.func83, Try.ntmps83
    go_wp2_with fail
    go_ret
    exact ⟨by rw [HR.out]; rfl, rfl⟩

def letB (c : Int) : Bool := inB 97 122 c || inB 65 90 c
def figB (c : Int) : Bool := inB 48 57 c || (c == 95)
def okAt (k : Nat) (c : Int) : Bool := letB c || (!(k == 0) && figB c)
def okFrom : List UInt8 → Nat → Bool
  | [], _ => true
  | c :: l, k => okAt k c.toNat && okFrom l (k + 1)
def nmB (l : List UInt8) : Bool := decide (1 ≤ l.length) && decide (l.length ≤ 20) && okFrom l 0
theorem okFrom_at (l : List UInt8) (k : Nat) (h : k < l.length) : okFrom (l.drop k) k = (okAt k l[k].toNat && okFrom (l.drop (k + 1)) (k + 1)) := by
  rw [List.drop_eq_getElem_cons h]; rfl
theorem okFrom_end (l : List UInt8) (k : Nat) (h : l.length ≤ k) : okFrom (l.drop k) k = true := by
  rw [List.drop_eq_nil_of_le h]; rfl
theorem okFrom_rest : ∀ (l : List UInt8) (k : Nat), okFrom l (k + 1) = l.all fun c => goesB c.toNat
  | [], _ => rfl
  | c :: l, k => by
    show (okAt (k + 1) c.toNat && okFrom l (k + 2)) = (goesB c.toNat && _)
    rw [okFrom_rest l (k + 1)]
    have e : okAt (k + 1) c.toNat = goesB c.toNat := by
      unfold okAt letB figB goesB
      generalize inB 97 122 c.toNat = p, inB 65 90 c.toNat = q, inB 48 57 c.toNat = r, ((c.toNat : Int) == 95) = t
      rw [show ((k + 1) == 0) = false by simp]
      revert p q r t; decide
    rw [e]
theorem con_of_nm (l : List UInt8) (h : 0 < l.length) : (nmB l && inB 97 122 (l[0].toNat : Int)) = nameB 97 122 l := by
  match l, h with
  | c :: l, _ =>
    simp only [List.getElem_cons_zero]
    show (decide (1 ≤ (c :: l).length) && decide ((c :: l).length ≤ 20) && (okAt 0 c.toNat && okFrom l (0 + 1)) && _) = (decide ((c :: l).length ≤ 20) && inB 97 122 c.toNat && l.all _)
    rw [okFrom_rest l 0, decide_eq_true (by simp : 1 ≤ (c :: l).length)]
    unfold okAt letB
    generalize inB 97 122 c.toNat = p, inB 65 90 c.toNat = q, (l.all fun c => goesB c.toNat) = r, decide ((c :: l).length ≤ 20) = t, figB c.toNat = u
    revert p q r t u; decide

set_option maxRecDepth 100000 in
set_option maxHeartbeats 400000 in
theorem name_any (s : ByteArray) (w : World) :
    Calls Try.prog 62 #[.string s] w fun e w' => e = .returned (.bool (nmB s.data.toList)) ∧ w = w' := by
  have hlen : s.data.toList.length = s.size := by simp
  by_cases h0 : s.size < 1
  · have HR : Hid (nmB s.data.toList = false) := by unfold Hid nmB; rw [hlen, decide_eq_false (by omega)]; rfl
    clear hlen
    go_enter Try.func62, Try.ntmps62
    go_wp2_with fail
    go_ret
    exact ⟨by rw [HR.out]; rfl, rfl⟩
  · by_cases h20 : 20 < s.size
    · have HR : Hid (nmB s.data.toList = false) := by unfold Hid nmB; rw [hlen, decide_eq_false (by omega : ¬ s.size ≤ 20), Bool.and_false]; rfl
      clear hlen
      go_enter Try.func62, Try.ntmps62
      go_wp2_with fail
      go_ret
      exact ⟨by rw [HR.out]; rfl, rfl⟩
    · have HR : Hid (nmB s.data.toList = okFrom s.data.toList 0) := by unfold Hid nmB; rw [hlen, decide_eq_true (by omega), decide_eq_true (by omega)]; rfl
      have d1 : decide ((s.size : Int) < 1) = false := by simp; omega
      have d2 : decide (20 < (s.size : Int)) = false := by simp; omega
      clear hlen
      go_enter Try.func62, Try.ntmps62
      go_wp2_with fail
      go_loop [3, 4, 5] (fun i _ _ => ∃ k : Nat, k ≤ s.size ∧ i = .int .i64 k ∧ Hid (okFrom s.data.toList 0 = okFrom (s.data.toList.drop k) k)) (fun i _ _ => s.size - (intOf i).toNat)
      case atStart => exact ⟨0, Nat.zero_le _, rfl, Lib.hid (by simp)⟩
      case round =>
        obtain ⟨k, hk, rfl, HF⟩ := hrel
        by_cases hlt : k < s.size
        · have HS : Hid (okFrom (s.data.toList.drop k) k = (okAt k s[k].toNat && okFrom (s.data.toList.drop (k + 1)) (k + 1))) := okFrom_at s.data.toList k (by simpa using hlt)
          go_upto_region 6 with fail
          go_cut [4] (fun f wx => f = .bool (figB s[k].toNat) ∧ wx = w)
          case first =>
            go_wp2_with fail
            all_goals go_meet
            all_goals
              refine ⟨congrArg Value.bool ?_, rfl⟩
              rw [Bool.eq_iff_iff]
              simp only [figB, inB, Bool.or_eq_true, Bool.and_eq_true, decide_eq_true_eq, beq_iff_eq]
              first | omega | (refine ⟨fun _ => ?_, fun _ => trivial⟩; omega)
          case rest =>
            obtain ⟨rfl, rfl⟩ := hcut
            have HO : Hid (okAt k s[k].toNat = (inB 97 122 s[k].toNat || inB 65 90 s[k].toNat || (!(k == 0) && figB s[k].toNat))) := rfl
            cases hp : inB 97 122 s[k].toNat
            · cases hq : inB 65 90 s[k].toNat
              · by_cases hk0 : k = 0
                · have HS' : Hid (okFrom (s.data.toList.drop k) k = false) := by unfold Hid; rw [HS.out, HO.out, hp, hq, show (k == 0) = true by simpa using hk0]; rfl
                  have hk0' : ((k : Int) == 0) = true := by simpa using hk0
                  clear hk0
                  go_wp2_with (first | (go_at_call 63; refine (small_any _ _).mono ?_; rintro e w' ⟨rfl, rfl⟩) | (go_at_call 83; refine (big_any _ _).mono ?_; rintro e w' ⟨rfl, rfl⟩))
                  go_ret
                  exact ⟨by rw [HR.out, HF.out, HS'.out]; rfl, rfl⟩
                · have hk0' : ((k : Int) == 0) = false := by simpa using hk0
                  have hk1 : (k == 0) = false := by simpa using hk0
                  cases hf : figB s[k].toNat
                  · have HS' : Hid (okFrom (s.data.toList.drop k) k = false) := by unfold Hid; rw [HS.out, HO.out, hp, hq, hk1, hf]; rfl
                    clear hk0 hk1
                    go_wp2_with (first | (go_at_call 63; refine (small_any _ _).mono ?_; rintro e w' ⟨rfl, rfl⟩) | (go_at_call 83; refine (big_any _ _).mono ?_; rintro e w' ⟨rfl, rfl⟩))
                    go_ret
                    exact ⟨by rw [HR.out, HF.out, HS'.out]; rfl, rfl⟩
                  · have HS' : Hid (okFrom (s.data.toList.drop k) k = okFrom (s.data.toList.drop (k + 1)) (k + 1)) := by unfold Hid; rw [HS.out, HO.out, hp, hq, hk1, hf]; rfl
                    clear hk0 hk1
                    go_wp2_with (first | (go_at_call 63; refine (small_any _ _).mono ?_; rintro e w' ⟨rfl, rfl⟩) | (go_at_call 83; refine (big_any _ _).mono ?_; rintro e w' ⟨rfl, rfl⟩))
                    go_round
                    case rel => exact ⟨k + 1, by omega, by go_num, Lib.hid (HF.out.trans HS'.out)⟩
                    case measure => simp [intOf]; omega
              · have HS' : Hid (okFrom (s.data.toList.drop k) k = okFrom (s.data.toList.drop (k + 1)) (k + 1)) := by unfold Hid; rw [HS.out, HO.out, hp, hq]; rfl
                go_wp2_with (first | (go_at_call 63; refine (small_any _ _).mono ?_; rintro e w' ⟨rfl, rfl⟩) | (go_at_call 83; refine (big_any _ _).mono ?_; rintro e w' ⟨rfl, rfl⟩))
                go_round
                case rel => exact ⟨k + 1, by omega, by go_num, Lib.hid (HF.out.trans HS'.out)⟩
                case measure => simp [intOf]; omega
            · have HS' : Hid (okFrom (s.data.toList.drop k) k = okFrom (s.data.toList.drop (k + 1)) (k + 1)) := by unfold Hid; rw [HS.out, HO.out, hp]; rfl
              go_wp2_with (first | (go_at_call 63; refine (small_any _ _).mono ?_; rintro e w' ⟨rfl, rfl⟩) | (go_at_call 83; refine (big_any _ _).mono ?_; rintro e w' ⟨rfl, rfl⟩))
              go_round
              case rel => exact ⟨k + 1, by omega, by go_num, Lib.hid (HF.out.trans HS'.out)⟩
              case measure => simp [intOf]; omega
        · have HS := Lib.hid (okFrom_end s.data.toList k (by simp; omega))
          go_wp2_with fail
          go_ret
          exact ⟨by rw [HR.out, HF.out, HS.out]; rfl, rfl⟩

set_option maxRecDepth 100000 in
set_option maxHeartbeats 400000 in
theorem con_any (s : ByteArray) (w : World) :
    Calls Try.prog 44 #[.string s] w fun e w' => e = .returned (.bool (nameB 97 122 s.data.toList)) ∧ w = w' := by
  by_cases h0 : 0 < s.size
  · have HC : Hid ((nmB s.data.toList && inB 97 122 s[0].toNat) = nameB 97 122 s.data.toList) := con_of_nm s.data.toList (by simpa using h0)
    cases hn : nmB s.data.toList
    · rw [hn] at HC
      go_enter Try.func44, Try.ntmps44
      go_wp2_with fail
      refine (name_any _ _).mono ?_
      rintro e w1 ⟨rfl, rfl⟩
      go_wp2_with fail
      go_ret
      exact ⟨by rw [← HC.out]; rfl, rfl⟩
    · rw [hn] at HC
      go_enter Try.func44, Try.ntmps44
      go_wp2_with fail
      refine (name_any _ _).mono ?_
      rintro e w1 ⟨rfl, rfl⟩
      go_wp2_with fail
      refine (small_any _ _).mono ?_
      rintro e w1 ⟨rfl, rfl⟩
      go_wp2_with fail
      go_ret
      exact ⟨by rw [← HC.out]; rfl, rfl⟩
  · have e : s.data.toList = [] := List.eq_nil_of_length_eq_zero (by have : s.data.toList.length = s.size := by simp
                                                                     omega)
    have hn : nmB s.data.toList = false := by rw [e]; rfl
    have HR : Hid (nameB 97 122 s.data.toList = false) := by unfold Hid; rw [e]; rfl
    clear e
    go_enter Try.func44, Try.ntmps44
    go_wp2_with fail
    refine (name_any _ _).mono ?_
    rintro e w1 ⟨rfl, rfl⟩
    go_wp2_with fail
    go_ret
    exact ⟨by rw [HR.out]; rfl, rfl⟩

end Go.Proofs.Ytjehccemilefgaa.Nm

namespace Go.Proofs.Ytjehccemilefgaa.Ex
open Go.RowKit Kit Rw Go.Proofs.Ytjehccemilefgaa.Nm

theorem part_int (w : World) (xs : Array Value) (k : Nat) (x : Int) (h : xs[k]? = some (.int .i64 x)) : (part 3 xs k).run Try.prog w = .ok (.int .i64 x) w := run_part_plain w (by kernel_rfl) h
/-- how many parts a node has -/
def partsN (t : Tg) : Int := if t.1 = 6 then 1 else t.2.2
end Go.Proofs.Ytjehccemilefgaa.Ex

namespace Go.Proofs.Ytjehccemilefgaa.Ex
open Go.RowKit Kit Rw Go.Proofs.Ytjehccemilefgaa.Nm

inductive Ex where
  | mk (n : Tg) (ks : List Ex) : Ex
mutual
def Ex.nodes : Ex → List Tg
  | .mk n ks => nodesL ks ++ [n]
def nodesL : List Ex → List Tg
  | [] => []
  | e :: r => e.nodes ++ nodesL r
end
def Ex.size (e : Ex) : Nat := e.nodes.length
/-- how many parts, as a length -/
def np (t : Tg) : Nat := (partsN t).toNat
mutual
def Ex.wf : Ex → Prop
  | .mk n ks => ks.length = np n ∧ wfL ks
def wfL : List Ex → Prop
  | [] => True
  | e :: r => e.wf ∧ wfL r
end
end Go.Proofs.Ytjehccemilefgaa.Ex

namespace Go.Proofs.Ytjehccemilefgaa.Ex
open Go.RowKit Kit Rw Go.Proofs.Ytjehccemilefgaa.Nm

def cellsI (l : List Int) : List Value := l.map (Value.int .i64)
theorem cellsI_one (l : List Int) : ∀ u ∈ cellsI l, u.oneCell' = true := fun u hu => by
  obtain ⟨x, _, rfl⟩ := List.mem_map.1 hu; rfl
theorem intInfo : (Try.prog.info? 3).map (fun i => (i.zero, i.size, i.bytes)) = some (some (.int .i64 0), 1, 8) := by kernel_rfl
end Go.Proofs.Ytjehccemilefgaa.Ex

namespace Go.Proofs.Ytjehccemilefgaa.Ex
open Go.RowKit Kit Rw Go.Proofs.Ytjehccemilefgaa.Nm

end Go.Proofs.Ytjehccemilefgaa.Ex

namespace Go.Proofs.Ytjehccemilefgaa.Ex
open Go.RowKit Kit Rw
open Go.Proofs.Ytjehccemilefgaa.Sg (Sig findI)
theorem own_new8 (w : World) (cs : List Value) (t : TypeId) : OwnC (w.alloc (.cells cs.toArray t)) w.heap.size cs :=
  ⟨by simp, fun j v hv => ⟨by have := (src_alloc w cs t (0, 0)) (by have := (List.getElem?_eq_some_iff.1 hv).1; omega); obtain ⟨ad, e, h⟩ := this; injection e with e; subst e; have := h j v hv; rwa [add_zero_head] at this, World.frozen?_alloc_at _ _ _ _ rfl⟩⟩
def turnB (s v : UInt8) : UInt8 := if v = 43 then s else if v = 45 ∧ s = 76 then 82 else if v = 45 ∧ s = 82 then 76 else 66
end Go.Proofs.Ytjehccemilefgaa.Ex

namespace Go.Proofs.Ytjehccemilefgaa.Ex
open Go.RowKit Kit Rw Go.Proofs.Ytjehccemilefgaa.Nm

end Go.Proofs.Ytjehccemilefgaa.Ex

namespace Go.Proofs.Ytjehccemilefgaa.Ex
open Go.RowKit Kit Rw Go.Proofs.Ytjehccemilefgaa.Nm

end Go.Proofs.Ytjehccemilefgaa.Ex

namespace Go.Proofs.Ytjehccemilefgaa.Ex
open Go.RowKit Kit Rw
open Go.Proofs.Ytjehccemilefgaa.Sg (Sig findI Row refFind_any)
end Go.Proofs.Ytjehccemilefgaa.Ex

namespace Go.Proofs.Ytjehccemilefgaa.Ld
open Go.RowKit Kit Rw
open Go.Proofs.Ytjehccemilefgaa.Sg (Sig findI)
open Go.Proofs.Ytjehccemilefgaa.Hs (Dist atI atI_some)
open Go.Proofs.Ytjehccemilefgaa.Tm (Tm Store mayB keyOk ofKey standB isPl isPl_iff allPl hasB)
open Go.Proofs.Ytjehccemilefgaa.Ex (Ex np)
section
variable {L : List Sig} {ks : List (List Int)} {own : List ByteArray}
end

section
variable {L : List Sig} {ks : List (List Int)} {own : List ByteArray}
end
end Go.Proofs.Ytjehccemilefgaa.Ld

namespace Go.Proofs.Ytjehccemilefgaa.Ld
open Go.RowKit Kit Rw
open Go.Proofs.Ytjehccemilefgaa.Sg (Sig findI)
open Go.Proofs.Ytjehccemilefgaa.Nm (nameB)
open Go.Proofs.Ytjehccemilefgaa.Hs (Dist atI atI_some)
open Go.Proofs.Ytjehccemilefgaa.Tm (Tm Store mayB keyOk ofKey standB isPl isPl_iff allPl hasB)
open Go.Proofs.Ytjehccemilefgaa.Ex (Ex np)
end Go.Proofs.Ytjehccemilefgaa.Ld

namespace Go.Proofs.Ytjehccemilefgaa.Tm
open Go.RowKit Kit Hs

end Go.Proofs.Ytjehccemilefgaa.Tm

namespace Go.Proofs.Ytjehccemilefgaa.Ld
open Go.RowKit Kit Rw
open Go.Proofs.Ytjehccemilefgaa.Sg (Sig findI)
open Go.Proofs.Ytjehccemilefgaa.Nm (nameB)
open Go.Proofs.Ytjehccemilefgaa.Hs (Dist atI atI_some)
open Go.Proofs.Ytjehccemilefgaa.Tm (Tm Store mayB keyOk ofKey standB isPl isPl_iff allPl hasB termAt ofKey_at)
open Go.Proofs.Ytjehccemilefgaa.Ex (Ex np)
def tmP (ks : List (List Int)) (i : Nat) : Tm := ofKey (ks[i]?.getD [])
section
variable {L : List Sig} {names : List ByteArray} {ks : List (List Int)}
/-- the parts of a term of a store stand ahead -/
theorem parts_ahead (hS : Store L ks) {i : Nat} {key : List Int} (h : ks[i]? = some key) : 3 ≤ key.length ∧ mayB L i (ofKey key) = true ∧ ∀ x ∈ (ofKey key).xs, 0 ≤ x ∧ x < (i : Int) := by
  have h1 := hS.ok i key h
  unfold keyOk at h1
  simp only [Bool.and_eq_true, decide_eq_true_eq] at h1
  refine ⟨h1.1.1, h1.1.2, fun x hx => ?_⟩
  have h2 := h1.1.2
  unfold mayB at h2
  simp only [Bool.and_eq_true] at h2
  have h3 := h2.2
  unfold allPl at h3
  rw [List.all_eq_true] at h3
  exact (isPl_iff _ _).1 (h3 x hx)
end
end Go.Proofs.Ytjehccemilefgaa.Ld

namespace Go.Proofs.Ytjehccemilefgaa.St
open Go.RowKit Kit Rw
open Go.Proofs.Ytjehccemilefgaa.Sg (Sig)
open Go.Proofs.Ytjehccemilefgaa.Tm (Tm Store ofKey termAt termAt_at mayB standB hasB isPl isPl_iff arity arity_at partsN isKindB)
open Go.Proofs.Ytjehccemilefgaa.Ld (tmP parts_ahead)
open Go.Proofs.Ytjehccemilefgaa.Ex (turnB)
inductive TOk (L : List Sig) (n : Nat) : Tm → Prop where
  | leaf (t : Tm) : t.xs = [] → (t.k = 0 ∨ t.k = 1 ∨ t.k = 2) → TOk L n t
  | con (t : Tm) (j : Nat) (h : j < L.length) : t.k = 3 → t.s = (j : Int) → t.xs.length = L[j].2.size → (∀ x ∈ t.xs, 0 ≤ x ∧ x < (n : Int)) → TOk L n t
  | two (t : Tm) (a b : Int) : (t.k = 4 ∨ t.k = 5) → t.xs = [a, b] → (0 ≤ a ∧ a < (n : Int)) → (0 ≤ b ∧ b < (n : Int)) → TOk L n t
  | proj (t : Tm) (j m : Nat) (h : j < L.length) (e : Int) : t.k = 6 → t.s = (j : Int) → t.p = (m : Int) → m < L[j].2.size → t.xs = [e] → (0 ≤ e ∧ e < (n : Int)) → TOk L n t
theorem may_tok {L : List Sig} {n : Nat} {t : Tm} (h : mayB L n t = true) : TOk L n t := by
  unfold mayB at h
  simp only [Bool.and_eq_true] at h
  obtain ⟨⟨h1, h2⟩, h3⟩ := h
  have hx : ∀ x ∈ t.xs, 0 ≤ x ∧ x < (n : Int) := fun x hx => by
    unfold Tm.allPl at h3
    have := List.all_eq_true.1 h3 x hx
    exact (isPl_iff _ _).1 this
  unfold standB at h1
  unfold hasB at h2
  by_cases k2 : t.k = 2
  · rw [if_neg (by omega)] at h2
    simp only [Bool.and_eq_true, beq_iff_eq] at h2
    have := h2.2
    unfold partsN at this
    rw [if_neg (by omega), if_neg (by omega), if_neg (by omega)] at this
    exact .leaf t (List.length_eq_zero_iff.1 (by omega)) (.inr (.inr k2))
  · rw [if_neg k2] at h1
    by_cases k3 : t.k = 3
    · rw [if_pos k3] at h1 h2
      simp only [Bool.and_eq_true, beq_iff_eq] at h1 h2
      obtain ⟨p1, p2⟩ := (isPl_iff _ _).1 h1.1
      obtain ⟨j, hj⟩ := Int.eq_ofNat_of_zero_le p1
      have hjl : j < L.length := by omega
      rw [hj, arity_at hjl] at h2
      exact .con t j hjl k3 hj (by omega) hx
    · rw [if_neg k3] at h1 h2
      simp only [Bool.and_eq_true, beq_iff_eq] at h2
      obtain ⟨hk, hl⟩ := h2
      by_cases k6 : t.k = 6
      · rw [if_pos k6] at h1
        simp only [Bool.and_eq_true] at h1
        obtain ⟨p1, p2⟩ := (isPl_iff _ _).1 h1.1
        obtain ⟨j, hj⟩ := Int.eq_ofNat_of_zero_le p1
        have hjl : j < L.length := by omega
        rw [hj, arity_at hjl] at h1
        obtain ⟨q1, q2⟩ := (isPl_iff _ _).1 h1.2
        obtain ⟨m, hm⟩ := Int.eq_ofNat_of_zero_le q1
        unfold partsN at hl
        rw [if_neg (by omega), if_neg (by omega), if_pos k6] at hl
        obtain ⟨e, he⟩ : ∃ e, t.xs = [e] := by
          match hxs : t.xs, hl with
          | [e], _ => exact ⟨e, rfl⟩
          | [], hl => simp at hl
          | _ :: _ :: _, hl => simp at hl; omega
        exact .proj t j m hjl e k6 hj hm (by omega) he (hx e (by simp [he]))
      · unfold partsN at hl
        by_cases k45 : t.k = 4 ∨ t.k = 5
        · have hl2 : (t.xs.length : Int) = 2 := by
            rcases k45 with k | k
            · rw [if_pos k] at hl; exact hl
            · rw [if_neg (by omega), if_pos k] at hl; exact hl
          obtain ⟨a, b, he⟩ : ∃ a b, t.xs = [a, b] := by
            match hxs : t.xs, hl2 with
            | [a, b], _ => exact ⟨a, b, rfl⟩
            | [], hl => simp at hl
            | [_], hl => simp at hl
            | _ :: _ :: _ :: _, hl => simp at hl; omega
          exact .two t a b k45 he (hx a (by simp [he])) (hx b (by simp [he]))
        · rw [if_neg (by omega), if_neg (by omega), if_neg (by omega)] at hl
          unfold isKindB at hk
          simp only [Bool.or_eq_true, beq_iff_eq] at hk
          exact .leaf t (List.length_eq_zero_iff.1 (by omega)) (by omega)
theorem tmP_is {ks : List (List Int)} {i : Nat} (h : i < ks.length) : tmP ks i = ofKey ks[i] := by
  unfold tmP
  rw [List.getElem?_eq_getElem h]; rfl
theorem place_tok {L : List Sig} {ks : List (List Int)} (hS : Store L ks) {i : Nat} (hi : i < ks.length) : TOk L i (tmP ks i) ∧ termAt ks (i : Int) = some (tmP ks i) := by
  have hk := List.getElem?_eq_getElem hi
  obtain ⟨h3, hM, _⟩ := parts_ahead hS hk
  have e : tmP ks i = ofKey ks[i] := by unfold tmP; rw [hk]; rfl
  rw [e]
  exact ⟨may_tok hM, termAt_at hi h3⟩

abbrev PI := Int × Int
/-- how the part k of the constructor of a number varies -/
def varyN (L : List Sig) (s : Int) (k : Nat) : UInt8 := (((L[s.toNat]?.map fun g : Sig => g.2).getD (⟨#[]⟩ : ByteArray)).data.toList)[k]?.getD 0
def pairsF (p q : Int) (v : UInt8) : List PI := (if v ≠ 45 then [(p, q)] else []) ++ (if v ≠ 43 then [(q, p)] else [])
def conF (L : List Sig) (s : Int) : Nat → List Int → List Int → List PI
  | k, a :: l, b :: m => pairsF a b (varyN L s k) ++ conF L s (k + 1) l m
  | _, _, _ => []
def projF (L : List Sig) (s t : Tm) : Int × List PI :=
  if s.k = 1 then (1, (if varyN L t.s t.p.toNat ≠ 45 then [(1, t.xs.headD 0)] else []) ++ (if varyN L t.s t.p.toNat ≠ 43 then [(t.xs.headD 0, 0)] else []))
  else if s.k = 3 ∧ s.s = t.s then (1, pairsF (s.xs[t.p.toNat]?.getD 0) (t.xs.headD 0) (varyN L t.s t.p.toNat)) else (0, [])
def stepT (L : List Sig) (x y : Int) (s t : Tm) : Int × List PI :=
  if x = y ∨ s.k = 0 ∨ t.k = 1 then (0, [])
  else if s.k = 4 then (1, [(s.xs[0]?.getD 0, y), (s.xs[1]?.getD 0, y)])
  else if t.k = 5 then (1, [(x, t.xs[0]?.getD 0), (x, t.xs[1]?.getD 0)])
  else if s.k = 2 ∨ t.k = 2 then (2, [])
  else if t.k = 6 then projF L s t
  else if s.k = 3 ∧ t.k = 3 ∧ s.s = t.s then (1, conF L s.s 0 s.xs t.xs)
  else if (s.k = 1 ∨ s.k = 3) ∧ (t.k = 0 ∨ t.k = 3) then (3, [])
  else (0, [])
def stepF (L : List Sig) (ks : List (List Int)) (x y : Int) : Int × List PI :=
  match termAt ks x, termAt ks y with
  | some s, some t => stepT L x y s t
  | _, _ => (0, [])
theorem stepF_at {L : List Sig} {ks : List (List Int)} (hS : Store L ks) {i j : Nat} (hi : i < ks.length) (hj : j < ks.length) : stepF L ks (i : Int) (j : Int) = stepT L i j (tmP ks i) (tmP ks j) := by
  unfold stepF
  rw [(place_tok hS hi).2, (place_tok hS hj).2]
theorem stepF_no {L : List Sig} {ks : List (List Int)} {x y : Int} (h : ¬ (isPl x ks.length = true ∧ isPl y ks.length = true)) : stepF L ks x y = (0, []) := by
  have none_of : ∀ z, isPl z ks.length ≠ true → termAt ks z = none := fun z hz => by
    unfold termAt
    rw [if_neg]
    simp only [Bool.and_eq_true]
    exact fun h => hz h.1
  unfold stepF
  by_cases hx : isPl x ks.length = true
  · have hy : isPl y ks.length ≠ true := fun hy => h ⟨hx, hy⟩
    rw [none_of y hy]
    cases termAt ks x <;> rfl
  · rw [none_of x hx]
theorem varyN_at {L : List Sig} {j m : Nat} (h : j < L.length) (hm : m < L[j].2.size) : varyN L (j : Int) m = L[j].2[m] := by
  unfold varyN
  rw [Int.toNat_natCast, List.getElem?_eq_getElem h]
  simp only [Option.map_some, Option.getD_some]
  have : m < L[j].2.data.toList.length := by simpa using hm
  rw [List.getElem?_eq_getElem this]
  rfl

theorem conF_at {L : List Sig} {s : Int} (l m : List Int) (i : Nat) (h1 : i < l.length) (h2 : i < m.length) : conF L s i (l.drop i) (m.drop i) = pairsF l[i] m[i] (varyN L s i) ++ conF L s (i + 1) (l.drop (i + 1)) (m.drop (i + 1)) := by
  rw [List.drop_eq_getElem_cons h1, List.drop_eq_getElem_cons h2]; rfl
theorem conF_end {L : List Sig} {s : Int} (l m : List Int) (i : Nat) (h : l.length ≤ i) : conF L s i (l.drop i) (m.drop i) = [] := by
  rw [List.drop_of_length_le h]; rfl
theorem pairsF_len (p q : Int) (v : UInt8) : (pairsF p q v).length ≤ 2 := by
  unfold pairsF
  rw [List.length_append]
  split <;> split <;> simp
end Go.Proofs.Ytjehccemilefgaa.St

namespace Go.Proofs.Ytjehccemilefgaa.St
open Go.RowKit Kit Rw
open Go.Proofs.Ytjehccemilefgaa.Sg (Sig)
open Go.Proofs.Ytjehccemilefgaa.Tm (Tm Store ofKey termAt isPl isPl_iff)
open Go.Proofs.Ytjehccemilefgaa.Ld (tmP parts_ahead)
open Go.Proofs.Ytjehccemilefgaa.Ex (turnB)
abbrev B3 := Bool × Bool × Bool
def onF (side : UInt8) (b : B3) : Bool := if side = 76 then b.1 else if side = 82 then b.2.1 else b.2.2
def varyT (L : List Sig) (t : Tm) (k : Nat) : UInt8 := if t.k = 3 then varyN L t.s k else if t.k = 6 then varyN L t.s t.p.toNat else 43
def allS (L : List Sig) (t : Tm) (f : Int → B3) (s : UInt8) : Nat → List Int → Bool
  | _, [] => true
  | k, x :: l => onF (turnB s (varyT L t k)) (f x) && allS L t f s (k + 1) l
def may3 (t : Tm) : B3 := (decide (¬ t.k = 5 ∧ ¬ t.k = 6), decide (¬ t.k = 4), decide (¬ t.k = 5 ∧ ¬ t.k = 6 ∧ ¬ t.k = 4))
def own3 (L : List Sig) (t : Tm) (f : Int → B3) : B3 := ((may3 t).1 && allS L t f 76 0 t.xs, (may3 t).2.1 && allS L t f 82 0 t.xs, (may3 t).2.2 && allS L t f 66 0 t.xs)
def sdS (L : List Sig) (ks : List (List Int)) : Nat → List B3
  | 0 => []
  | i + 1 => sdS L ks i ++ [own3 L (tmP ks i) fun a => (sdS L ks i)[a.toNat]?.getD (false, false, false)]
def sdP (L : List Sig) (ks : List (List Int)) (i : Nat) : B3 := (sdS L ks (i + 1))[i]?.getD (false, false, false)
def sidedF (L : List Sig) (ks : List (List Int)) (id : Int) (side : UInt8) : Bool := isPl id ks.length && onF side (sdP L ks id.toNat)
section
variable {L : List Sig} {ks : List (List Int)}
theorem sdS_len : ∀ (i : Nat), (sdS L ks i).length = i
  | 0 => rfl
  | i + 1 => by rw [sdS, List.length_append, sdS_len i]; rfl
theorem sdS_get {j : Nat} : ∀ {i : Nat}, j < i → (sdS L ks i)[j]? = some (sdP L ks j)
  | i + 1, h => by
    by_cases hj : j = i
    · subst hj
      unfold sdP
      have : j < (sdS L ks (j + 1)).length := by rw [sdS_len]; omega
      rw [List.getElem?_eq_getElem this]; rfl
    · rw [sdS, List.getElem?_append_left (by rw [sdS_len]; omega)]
      exact sdS_get (by omega)
theorem allS_congr {t : Tm} {f g : Int → B3} {s : UInt8} : ∀ (k : Nat) (l : List Int), (∀ x ∈ l, f x = g x) → allS L t f s k l = allS L t g s k l
  | _, [], _ => rfl
  | k, x :: l, h => by
    unfold allS
    rw [h x (by simp), allS_congr (k + 1) l fun y hy => h y (by simp [hy])]
theorem sdP_eq (hS : Store L ks) {i : Nat} (hi : i < ks.length) : sdP L ks i = own3 L (tmP ks i) fun a => sdP L ks a.toNat := by
  have e : sdP L ks i = own3 L (tmP ks i) fun a => (sdS L ks i)[a.toNat]?.getD (false, false, false) := by
    unfold sdP
    rw [sdS, List.getElem?_append_right (by rw [sdS_len]; exact Nat.le_refl _), sdS_len, Nat.sub_self]
    rfl
  rw [e]
  have hp := (parts_ahead hS (List.getElem?_eq_getElem hi)).2.2
  rw [← tmP_is hi] at hp
  have : ∀ x ∈ (tmP ks i).xs, (sdS L ks i)[x.toNat]?.getD (false, false, false) = sdP L ks x.toNat := fun x hx => by
    obtain ⟨a, b⟩ := hp x hx
    rw [sdS_get (by omega)]; rfl
  unfold own3
  rw [allS_congr 0 _ this, allS_congr 0 _ this, allS_congr 0 _ this]
theorem allS_iff {t : Tm} {f : Int → B3} {s : UInt8} : ∀ (k : Nat) (l : List Int), allS L t f s k l = true ↔ ∀ (i : Nat) (x : Int), l[i]? = some x → onF (turnB s (varyT L t (k + i))) (f x) = true
  | k, [] => by simp [allS]
  | k, y :: l => by
    unfold allS
    rw [Bool.and_eq_true, allS_iff (k + 1) l]
    constructor
    · rintro ⟨h1, h2⟩ i x hx
      cases i with
      | zero => injection hx with hx; subst hx; exact h1
      | succ i =>
        have := h2 i x (by simpa using hx)
        rwa [show k + 1 + i = k + (i + 1) by omega] at this
    · intro h
      refine ⟨h 0 y rfl, fun i x hx => ?_⟩
      have := h (i + 1) x (by simpa using hx)
      rwa [show k + (i + 1) = k + 1 + i by omega] at this
theorem turn_B (v : UInt8) : turnB 66 v = 66 := by
  unfold turnB
  split
  · rfl
  · rw [if_neg (by rintro ⟨_, h⟩; exact absurd h (by decide)), if_neg (by rintro ⟨_, h⟩; exact absurd h (by decide))]
theorem on_all {s : UInt8} {b : B3} (h1 : b.1 = true) (h2 : b.2.1 = true) (h3 : b.2.2 = true) : onF s b = true := by
  unfold onF
  split
  · exact h1
  · split
    · exact h2
    · exact h3
/-- what may stand on both sides may stand on each -/
theorem both_each (hS : Store L ks) : ∀ (i : Nat), i < ks.length → (sdP L ks i).2.2 = true → (sdP L ks i).1 = true ∧ (sdP L ks i).2.1 = true := by
  intro i
  induction i using Nat.strongRecOn with
  | ind i ih =>
    intro hi h
    have hp := (parts_ahead hS (List.getElem?_eq_getElem hi)).2.2
    rw [← tmP_is hi] at hp
    rw [sdP_eq hS hi] at h ⊢
    unfold own3 at h ⊢
    simp only [Bool.and_eq_true] at h ⊢
    obtain ⟨h1, h2⟩ := h
    unfold may3 at h1
    simp only [decide_eq_true_eq] at h1
    rw [allS_iff] at h2
    have all : ∀ (s : UInt8), allS L (tmP ks i) (fun a => sdP L ks a.toNat) s 0 (tmP ks i).xs = true := fun s => by
      rw [allS_iff]
      intro k x hx
      have hb := h2 k x hx
      rw [turn_B] at hb
      have hb2 : (sdP L ks x.toNat).2.2 = true := hb
      obtain ⟨a, b⟩ := hp x (List.mem_of_getElem? hx)
      obtain ⟨c, d⟩ := ih x.toNat (by omega) (by omega) hb2
      exact on_all c d hb2
    unfold may3
    simp only [decide_eq_true_eq]
    exact ⟨⟨⟨h1.1, h1.2.1⟩, all 76⟩, h1.2.2, all 82⟩
end
end Go.Proofs.Ytjehccemilefgaa.St

namespace Go.Proofs.Ytjehccemilefgaa.St
open Go.RowKit Kit Rw
open Go.Proofs.Ytjehccemilefgaa.Sg (Sig)
open Go.Proofs.Ytjehccemilefgaa.Tm (Tm Store ofKey termAt isPl isPl_iff)
open Go.Proofs.Ytjehccemilefgaa.Ld (tmP parts_ahead)
open Go.Proofs.Ytjehccemilefgaa.Ex (turnB)
section
variable {L : List Sig} {ks : List (List Int)}
inductive Reach (L : List Sig) (ks : List (List Int)) (p : PI) : PI → Prop where
  | self : Reach L ks p p
  | step {q z : PI} : Reach L ks p q → z ∈ (stepF L ks q.1 q.2).2 → Reach L ks p z
theorem Reach.trans {p q z : PI} (h : Reach L ks p q) (k : Reach L ks q z) : Reach L ks p z := by
  induction k with
  | self => exact h
  | step _ hz ih => exact ih.step hz
/-- pairs in order -/
def ltP (a b : PI) : Prop := a.1 < b.1 ∨ (a.1 = b.1 ∧ a.2 < b.2)
instance (a b : PI) : Decidable (ltP a b) := by unfold ltP; infer_instance
end
end Go.Proofs.Ytjehccemilefgaa.St

namespace Go.Proofs.Ytjehccemilefgaa.St
open Go.RowKit Kit Rw
open Go.Proofs.Ytjehccemilefgaa.Sg (Sig)
open Go.Proofs.Ytjehccemilefgaa.Tm (Tm Store ofKey termAt isPl isPl_iff)
open Go.Proofs.Ytjehccemilefgaa.Ld (tmP parts_ahead)
open Go.Proofs.Ytjehccemilefgaa.Ex (turnB)
section
variable {L : List Sig} {ks : List (List Int)}
theorem stepT_kinds (x y : Int) (s t : Tm) : ((stepT L x y s t).1 = 0 ∨ (stepT L x y s t).1 = 1 ∨ (stepT L x y s t).1 = 2 ∨ (stepT L x y s t).1 = 3) ∧ ((stepT L x y s t).1 = 1 ∨ (stepT L x y s t).2 = []) := by
  unfold stepT
  split
  · exact ⟨.inl rfl, .inr rfl⟩
  · split
    · exact ⟨.inr (.inl rfl), .inl rfl⟩
    · split
      · exact ⟨.inr (.inl rfl), .inl rfl⟩
      · split
        · exact ⟨.inr (.inr (.inl rfl)), .inr rfl⟩
        · split
          · unfold projF
            split
            · exact ⟨.inr (.inl rfl), .inl rfl⟩
            · split
              · exact ⟨.inr (.inl rfl), .inl rfl⟩
              · exact ⟨.inl rfl, .inr rfl⟩
          · split
            · exact ⟨.inr (.inl rfl), .inl rfl⟩
            · split
              · exact ⟨.inr (.inr (.inr rfl)), .inr rfl⟩
              · exact ⟨.inl rfl, .inr rfl⟩
theorem step_kinds (x y : Int) : ((stepF L ks x y).1 = 0 ∨ (stepF L ks x y).1 = 1 ∨ (stepF L ks x y).1 = 2 ∨ (stepF L ks x y).1 = 3) ∧ ((stepF L ks x y).1 = 1 ∨ (stepF L ks x y).2 = []) := by
  unfold stepF
  split
  · exact stepT_kinds x y _ _
  · exact ⟨.inl rfl, .inr rfl⟩
end
end Go.Proofs.Ytjehccemilefgaa.St

namespace Go.Proofs.Ytjehccemilefgaa.St
open Go.RowKit Kit Rw
open Go.Proofs.Ytjehccemilefgaa.Sg (Sig)
open Go.Proofs.Ytjehccemilefgaa.Tm (Tm Store ofKey termAt isPl isPl_iff)
open Go.Proofs.Ytjehccemilefgaa.Ld (tmP parts_ahead)
open Go.Proofs.Ytjehccemilefgaa.Ex (turnB)
abbrev Ask := Bool × Bool
def bitI (b : Ask) : Int := (if b.1 then 1 else 0) + (if b.2 then 2 else 0)
def askSide (s : UInt8) : Ask := if s = 76 then (true, false) else if s = 82 then (false, true) else (true, true)
def askTurn (b : Ask) (v : UInt8) : Ask := if v = 43 then b else if v = 45 then (b.2, b.1) else (true, true)
def askOr (b c : Ask) : Ask := (b.1 || c.1, b.2 || c.2)
def mayAsk (k : Int) (b : Ask) : Bool := if k = 4 then b.1 && !b.2 else if k = 5 ∨ k = 6 then !b.1 && b.2 else true
def met (b : Ask) (v : B3) : Bool := (!b.1 || v.1) && (!b.2 || v.2.1)
theorem met_or (b c : Ask) (v : B3) : met (askOr b c) v = (met b v && met c v) := by
  unfold met askOr
  obtain ⟨b1, b2⟩ := b; obtain ⟨c1, c2⟩ := c
  cases b1 <;> cases b2 <;> cases c1 <;> cases c2 <;> cases v.1 <;> cases v.2.1 <;> rfl
theorem met_none (v : B3) : met (false, false) v = true := rfl
section
variable {L : List Sig} {ks : List (List Int)}
theorem all_at {t : Tm} {f : Int → B3} {s : UInt8} {l : List Int} : allS L t f s 0 l = true ↔ ∀ (i : Nat) (x : Int), l[i]? = some x → onF (turnB s (varyT L t i)) (f x) = true := by
  rw [allS_iff]
  simp only [Nat.zero_add]
theorem turnB_L (v : UInt8) : turnB 76 v = if v = 43 then 76 else if v = 45 then 82 else 66 := by
  unfold turnB
  split
  · rfl
  · by_cases h : v = 45
    · rw [if_pos ⟨h, rfl⟩, if_pos h]
    · rw [if_neg (fun hh => h hh.1), if_neg (fun hh => h hh.1), if_neg h]
theorem turnB_R (v : UInt8) : turnB 82 v = if v = 43 then 82 else if v = 45 then 76 else 66 := by
  unfold turnB
  split
  · rfl
  · by_cases h : v = 45
    · rw [if_neg (by rintro ⟨_, h⟩; exact absurd h (by decide)), if_pos ⟨h, rfl⟩, if_pos h]
    · rw [if_neg (fun hh => h hh.1), if_neg (fun hh => h hh.1), if_neg h]
/-- on both sides is as good as on each -/
theorem both_is (hS : Store L ks) : ∀ (i : Nat), i < ks.length → (sdP L ks i).2.2 = ((sdP L ks i).1 && (sdP L ks i).2.1) := by
  intro i
  induction i using Nat.strongRecOn with
  | ind i ih =>
    intro hi
    rw [Bool.eq_iff_iff, Bool.and_eq_true]
    constructor
    · exact fun h => both_each hS i hi h
    · rintro ⟨h1, h2⟩
      have hp := (parts_ahead hS (List.getElem?_eq_getElem hi)).2.2
      rw [← tmP_is hi] at hp
      rw [sdP_eq hS hi] at h1 h2 ⊢
      unfold own3 at h1 h2 ⊢
      simp only [Bool.and_eq_true] at h1 h2 ⊢
      obtain ⟨m1, a1⟩ := h1
      obtain ⟨m2, a2⟩ := h2
      unfold may3 at m1 m2 ⊢
      simp only [decide_eq_true_eq] at m1 m2 ⊢
      refine ⟨⟨m1.1, m1.2, m2⟩, ?_⟩
      rw [all_at] at a1 a2 ⊢
      intro k x hx
      rw [turn_B]
      obtain ⟨p, q⟩ := hp x (List.mem_of_getElem? hx)
      have e1 := a1 k x hx
      have e2 := a2 k x hx
      show (sdP L ks x.toNat).2.2 = true
      rw [ih x.toNat (by omega) (by omega), Bool.and_eq_true]
      rw [turnB_L] at e1
      rw [turnB_R] at e2
      by_cases h43 : varyT L (tmP ks i) k = 43
      · rw [if_pos h43] at e1 e2; exact ⟨e1, e2⟩
      · rw [if_neg h43] at e1 e2
        by_cases h45 : varyT L (tmP ks i) k = 45
        · rw [if_pos h45] at e1 e2; exact ⟨e2, e1⟩
        · rw [if_neg h45] at e1
          have e3 : (sdP L ks x.toNat).2.2 = true := e1
          exact both_each hS x.toNat (by omega) e3
theorem met_side (hS : Store L ks) {i : Nat} (hi : i < ks.length) (s : UInt8) : met (askSide s) (sdP L ks i) = onF s (sdP L ks i) := by
  have hb := both_is hS i hi
  unfold met askSide onF
  by_cases h1 : s = 76
  · simp [h1]
  · by_cases h2 : s = 82
    · simp [h2]
    · simp [h1, h2, hb]
theorem met_turn (hS : Store L ks) {i : Nat} (hi : i < ks.length) (b : Ask) (v : UInt8) (hb : b ≠ (false, false)) : met (askTurn b v) (sdP L ks i) = ((!b.1 || onF (turnB 76 v) (sdP L ks i)) && (!b.2 || onF (turnB 82 v) (sdP L ks i))) := by
  have hB := both_is hS i hi
  rw [turnB_L, turnB_R]
  unfold askTurn
  by_cases h43 : v = 43
  · rw [if_pos h43, if_pos h43, if_pos h43]; rfl
  · rw [if_neg h43, if_neg h43, if_neg h43]
    by_cases h45 : v = 45
    · rw [if_pos h45, if_pos h45, if_pos h45]
      show ((!b.2 || (sdP L ks i).1) && (!b.1 || (sdP L ks i).2.1)) = ((!b.1 || (sdP L ks i).2.1) && (!b.2 || (sdP L ks i).1))
      exact Bool.and_comm _ _
    · rw [if_neg h45, if_neg h45, if_neg h45]
      show ((sdP L ks i).1 && (sdP L ks i).2.1) = ((!b.1 || (sdP L ks i).2.2) && (!b.2 || (sdP L ks i).2.2))
      rw [hB]
      obtain ⟨b1, b2⟩ := b
      cases b1 <;> cases b2
      · exact absurd rfl hb
      all_goals simp
/-- the parts' sides, from a part on -/
def metS (L : List Sig) (ks : List (List Int)) (t : Tm) (b : Ask) : Nat → List Int → Bool
  | _, [] => true
  | k, x :: l => met (askTurn b (varyT L t k)) (sdP L ks x.toNat) && metS L ks t b (k + 1) l
theorem metS_at {t : Tm} {b : Ask} (l : List Int) (k : Nat) (h : k < l.length) : metS L ks t b k (l.drop k) = (met (askTurn b (varyT L t k)) (sdP L ks l[k].toNat) && metS L ks t b (k + 1) (l.drop (k + 1))) := by
  rw [List.drop_eq_getElem_cons h]; rfl
theorem metS_end {t : Tm} {b : Ask} (l : List Int) (k : Nat) (h : l.length ≤ k) : metS L ks t b k (l.drop k) = true := by
  rw [List.drop_of_length_le h]; rfl
theorem metS_is (hS : Store L ks) {t : Tm} {b : Ask} (hb : b ≠ (false, false)) : ∀ (k : Nat) (l : List Int), (∀ x ∈ l, 0 ≤ x ∧ x < (ks.length : Int)) → metS L ks t b k l = ((!b.1 || allS L t (fun a => sdP L ks a.toNat) 76 k l) && (!b.2 || allS L t (fun a => sdP L ks a.toNat) 82 k l))
  | k, [], _ => by unfold metS allS; simp
  | k, x :: l, h => by
    obtain ⟨p, q⟩ := h x (by simp)
    unfold metS allS
    rw [metS_is hS hb (k + 1) l fun y hy => h y (by simp [hy]), met_turn hS (by omega) b _ hb]
    obtain ⟨b1, b2⟩ := b
    cases b1 <;> cases b2 <;> simp [Bool.and_assoc, Bool.and_left_comm]
theorem met_own (hS : Store L ks) {i : Nat} (hi : i < ks.length) {b : Ask} (hb : b ≠ (false, false)) : met b (sdP L ks i) = (mayAsk (tmP ks i).k b && metS L ks (tmP ks i) b 0 (tmP ks i).xs) := by
  have hp := (parts_ahead hS (List.getElem?_eq_getElem hi)).2.2
  rw [← tmP_is hi] at hp
  rw [metS_is hS hb 0 _ fun x hx => by obtain ⟨p, q⟩ := hp x hx; omega, sdP_eq hS hi]
  unfold met own3 may3 mayAsk
  obtain ⟨b1, b2⟩ := b
  by_cases k4 : (tmP ks i).k = 4
  · have n5 : ¬ (tmP ks i).k = 5 := by omega
    have n6 : ¬ (tmP ks i).k = 6 := by omega
    cases b1 <;> cases b2 <;> simp_all
  · by_cases k5 : (tmP ks i).k = 5
    · have n6 : ¬ (tmP ks i).k = 6 := by omega
      cases b1 <;> cases b2 <;> simp_all
    · by_cases k6 : (tmP ks i).k = 6
      · cases b1 <;> cases b2 <;> simp_all
      · cases b1 <;> cases b2 <;> simp_all
/-- all that is asked for up to a place -/
def allMet (L : List Sig) (ks : List (List Int)) (S : List Ask) (m : Nat) : Bool := (List.range m).all fun j => met (S[j]?.getD (false, false)) (sdP L ks j)
theorem allMet_succ (S : List Ask) (m : Nat) : allMet L ks S (m + 1) = (allMet L ks S m && met (S[m]?.getD (false, false)) (sdP L ks m)) := by
  unfold allMet
  rw [List.range_succ, List.all_append]
  simp
theorem allMet_iff (S : List Ask) (m : Nat) : allMet L ks S m = true ↔ ∀ j, j < m → met (S[j]?.getD (false, false)) (sdP L ks j) = true := by
  unfold allMet
  rw [List.all_eq_true]
  simp only [List.mem_range]
theorem allMet_set {S : List Ask} {m x : Nat} {b : Ask} (c : Ask) (hx : x < m) (hb : S[x]? = some b) : allMet L ks (S.set x (askOr b c)) m = (allMet L ks S m && met c (sdP L ks x)) := by
  have hl := (List.getElem?_eq_some_iff.1 hb).1
  have get : ∀ j, (S.set x (askOr b c))[j]?.getD (false, false) = if j = x then askOr b c else S[j]?.getD (false, false) := fun j => by
    rw [List.getElem?_set]
    by_cases e : x = j
    · subst e; simp [hl]
    · rw [if_neg e, if_neg (fun h => e h.symm)]
  rw [Bool.eq_iff_iff, Bool.and_eq_true, allMet_iff, allMet_iff]
  constructor
  · intro h
    have h0 := h x hx
    rw [get, if_pos rfl, met_or, Bool.and_eq_true] at h0
    refine ⟨fun j hj => ?_, h0.2⟩
    by_cases e : j = x
    · subst e; rw [hb]; exact h0.1
    · have h1 := h j hj
      rwa [get, if_neg e] at h1
  · rintro ⟨h1, h2⟩ j hj
    rw [get]
    by_cases e : j = x
    · subst e
      rw [if_pos rfl, met_or, Bool.and_eq_true]
      have h3 := h1 j hj
      rw [hb] at h3
      exact ⟨h3, h2⟩
    · rw [if_neg e]; exact h1 j hj
/-- at the beginning one place is asked for -/
theorem allMet_first {n : Nat} (b : Ask) : allMet L ks ((List.replicate (n + 1) (false, false)).set n b) (n + 1) = met b (sdP L ks n) := by
  rw [Bool.eq_iff_iff, allMet_iff]
  have get : ∀ j, j < n + 1 → ((List.replicate (n + 1) ((false, false) : Ask)).set n b)[j]?.getD (false, false) = if j = n then b else (false, false) := fun j hj => by
    rw [List.getElem?_set]
    by_cases e : n = j
    · subst e; simp
    · rw [if_neg e, if_neg (fun h => e h.symm), List.getElem?_replicate, if_pos hj]; rfl
  constructor
  · intro h
    have := h n (by omega)
    rwa [get n (by omega), if_pos rfl] at this
  · intro h j hj
    rw [get j hj]
    by_cases e : j = n
    · subst e; rwa [if_pos rfl]
    · rw [if_neg e]; rfl

end
end Go.Proofs.Ytjehccemilefgaa.St

namespace Go.Proofs.Ytjehccemilefgaa.Ex
open Go.RowKit Kit Go.Proofs.Ytjehccemilefgaa.Nm Rw

end Go.Proofs.Ytjehccemilefgaa.Ex

namespace Go.Proofs.Ytjehccemilefgaa.Ex
open Go.RowKit Kit Rw
open Go.Proofs.Ytjehccemilefgaa.Sg (Sig findI Row refFind_any)
end Go.Proofs.Ytjehccemilefgaa.Ex

namespace Go.Proofs.Ytjehccemilefgaa.Ex
open Go.RowKit Kit Rw
open Go.Proofs.Ytjehccemilefgaa.Sg (Sig findI Row refFind_any)
theorem byte_is (v : UInt8) (k : Nat) (hk : k < 256) : ((v.toNat : Int) == (k : Int)) = decide (v = UInt8.ofNat k) := by
  rw [Bool.eq_iff_iff]
  simp only [beq_iff_eq, decide_eq_true_eq]
  constructor
  · intro h
    apply UInt8.toNat.inj
    rw [UInt8.toNat_ofNat']
    omega
  · rintro rfl
    rw [UInt8.toNat_ofNat']
    omega
end Go.Proofs.Ytjehccemilefgaa.Ex

namespace Go.Proofs.Ytjehccemilefgaa.St
open Go.RowKit Kit Rw

def cellsQ : List PI → List Value
  | [] => []
  | t :: l => .int .i64 t.1 :: .int .i64 t.2 :: cellsQ l
theorem cellsQ_len (l : List PI) : (cellsQ l).length = l.length * 2 := by
  induction l with
  | nil => rfl
  | cons s l ih => simp [cellsQ, ih]; omega
theorem cellsQ_append (a b : List PI) : cellsQ (a ++ b) = cellsQ a ++ cellsQ b := by
  induction a with
  | nil => rfl
  | cons s l ih => simp [cellsQ, ih]
theorem cellsQ_0 (l : List PI) (i : Nat) : (cellsQ l)[i * 2]? = l[i]?.map fun s => Value.int .i64 s.1 := by
  induction l generalizing i with
  | nil => simp [cellsQ]
  | cons s l ih =>
    cases i with
    | zero => rfl
    | succ i => rw [show (i + 1) * 2 = i * 2 + 1 + 1 by omega]; simpa [cellsQ] using ih i
theorem cellsQ_1 (l : List PI) (i : Nat) : (cellsQ l)[i * 2 + 1]? = l[i]?.map fun s => Value.int .i64 s.2 := by
  induction l generalizing i with
  | nil => simp [cellsQ]
  | cons s l ih =>
    cases i with
    | zero => rfl
    | succ i => rw [show (i + 1) * 2 + 1 = i * 2 + 1 + 1 + 1 by omega]; simpa [cellsQ] using ih i
theorem pair_at {w : World} {B : Nat} {A : Option Addr} {l : List PI} (h : Rds w B A (cellsQ l)) {k : Nat} (hk : k < l.length) :
    ∃ ad, A = some ad ∧ ad.block < B ∧ w.cell? (ad.add (k * 2)) = some (.int .i64 l[k].1) ∧ w.cell? ⟨(ad.add (k * 2)).block, (ad.add (k * 2)).off + 1, none⟩ = some (.int .i64 l[k].2) := by
  obtain ⟨ad, e, hlt, hc⟩ := h (by rw [cellsQ_len]; omega)
  refine ⟨ad, e, hlt, hc _ _ (by rw [cellsQ_0, List.getElem?_eq_getElem hk]; rfl), ?_⟩
  rw [← add_succ]
  exact hc _ _ (by rw [cellsQ_1, List.getElem?_eq_getElem hk]; rfl)
theorem pairInfo : (Try.prog.info? 46).map (fun i => (i.zero, i.size, i.bytes)) = some (some (.agg #[.int .i64 0, .int .i64 0]), 2, 16) := by kernel_rfl
theorem byte_ne (v : UInt8) (k : Nat) (hk : k < 256) : ((v.toNat : Int) != (k : Int)) = decide (v ≠ UInt8.ofNat k) := by
  have := Ex.byte_is v k hk
  rw [bne, this]
  by_cases h : v = UInt8.ofNat k <;> simp [h]

/-- a row of a call's own, a few pairs more -/
def RowQ (base : Nat) (l : List PI) (w : World) (e : Ending) (w' : World) : Prop := ∃ v, e = .returned v ∧ w'.ownsRow base 46 2 v l.length (cellsQ l) ∧ Below base w w'
set_option maxRecDepth 100000 in
set_option maxHeartbeats 2000000 in
theorem refPairs_any (base : Nat) (o : List PI) (u : Value) (p q : Int) (v : UInt8) (w : World) (ho : w.ownsRow base 46 2 u o.length (cellsQ o)) (hb : base ≤ w.heap.size) (hl : o.length ≤ 1000000) :
    Calls Try.prog 30 #[u, .int .i64 p, .int .i64 q, .int .u8 (v.toNat : Int)] w (RowQ base (o ++ pairsF p q v) w) := by
  obtain ⟨i0, hi, hz0, hz1, hz2⟩ := info_parts pairInfo
  have Hi := Lib.hid hi
  have Hz0 := Lib.hid hz0
  have Hz1 := Lib.hid hz1
  have Hz2 := Lib.hid hz2
  clear hi hz0 hz1 hz2
  have e45 : ((v.toNat : Int) != 45) = decide (v ≠ 45) := byte_ne v 45 (by decide)
  have e43 : ((v.toNat : Int) != 43) = decide (v ≠ 43) := byte_ne v 43 (by decide)
  have HO := Lib.hid ho
  have HP : Hid (pairsF p q v = (if v ≠ 45 then [(p, q)] else []) ++ (if v ≠ 43 then [(q, p)] else [])) := rfl
  clear ho
  have HO1 := Lib.hid (row_kept HO.out ((Q.refl w).alloc (Obj.cells #[.int .i64 p, .int .i64 q] 46)) (Nat.le_refl _))
  have HQ1 := Lib.hid ((Q.refl w).alloc (Obj.cells #[.int .i64 p, .int .i64 q] 46))
  have HS1 := Lib.hid (src_alloc w [.int .i64 p, .int .i64 q] 46 (0, 0))
  have HB1 : Hid (Below base w (w.alloc (Obj.cells #[.int .i64 p, .int .i64 q] 46))) := HQ1.out.mono hb
  have hb1 : base ≤ (w.alloc (Obj.cells #[.int .i64 p, .int .i64 q] 46)).heap.size := Nat.le_trans hb HQ1.out.size
  by_cases h45 : v = 45
  · subst h45
    have e45' : (((45 : UInt8).toNat : Int) != 45) = false := by rw [e45]; rfl
    have e43' : (((45 : UInt8).toNat : Int) != 43) = true := by rw [e43]; rfl
    have HR : Hid (pairsF p q 45 = [(q, p)]) := by rw [HP.out]; rfl
    have HO2 := Lib.hid (row_kept HO.out ((Q.refl w).alloc (Obj.cells #[.int .i64 q, .int .i64 p] 46)) (Nat.le_refl _))
    have HQ2 := Lib.hid ((Q.refl w).alloc (Obj.cells #[.int .i64 q, .int .i64 p] 46))
    have HS2 := Lib.hid (src_alloc w [.int .i64 q, .int .i64 p] 46 (0, 0))
    have hb2 : base ≤ (w.alloc (Obj.cells #[.int .i64 q, .int .i64 p] 46)).heap.size := Nat.le_trans hb HQ2.out.size
    clear e45 e43 HP
    generalize ((45 : UInt8).toNat : Int) = vv at *
    go_enter Try.func30, Try.ntmps30
    go_wp2_with (at_builtin; refine wpList_append_src _ rfl (.tmp 19) (.tmp 23) _ rfl base 46 i0 _ 2 16 Try.underlying31 Hi.out Hz0.out Hz1.out Hz2.out rfl (by omega) u o.length (cellsQ o) rfl HO2.out (some ⟨w.heap.size, 0, none⟩) 1 1 [.int .i64 q, .int .i64 p] rfl rfl HS2.out (by simp [Value.oneCell']) (by unfold maxLen; omega) (by omega) hb2 ?_; intro v' w' own' gr' _; have Own := Lib.hid own'; have HQ' : Hid (Below base w w') := Below.grown (HQ2.out.mono hb) gr' hb2 (fun k e => (HO2.out.lt k e).1); clear own' gr')
    go_ret
    exact ⟨v', rfl, by rw [HR.out, List.length_append, cellsQ_append]; exact Own.out, HQ'.out⟩
  · have h45' : decide (v ≠ 45) = true := decide_eq_true h45
    rw [h45'] at e45
    by_cases h43 : v = 43
    · subst h43
      have e43' : (((43 : UInt8).toNat : Int) != 43) = false := by rw [e43]; rfl
      have HR : Hid (pairsF p q 43 = [(p, q)]) := by rw [HP.out]; rfl
      clear e43 HP h45 h45'
      generalize ((43 : UInt8).toNat : Int) = vv at *
      go_enter Try.func30, Try.ntmps30
      go_wp2_with (at_builtin; refine wpList_append_src _ rfl (.tmp 11) (.tmp 15) _ rfl base 46 i0 _ 2 16 Try.underlying31 Hi.out Hz0.out Hz1.out Hz2.out rfl (by omega) u o.length (cellsQ o) rfl HO1.out (some ⟨w.heap.size, 0, none⟩) 1 1 [.int .i64 p, .int .i64 q] rfl rfl HS1.out (by simp [Value.oneCell']) (by unfold maxLen; omega) (by omega) hb1 ?_; intro v' w' own' gr' _; have Own := Lib.hid own'; have HQ' : Hid (Below base w w') := Below.grown HB1.out gr' hb1 (fun k e => (HO1.out.lt k e).1); clear own' gr')
      go_ret
      exact ⟨v', rfl, by rw [HR.out, List.length_append, cellsQ_append]; exact Own.out, HQ'.out⟩
    · have h43' : decide (v ≠ 43) = true := decide_eq_true h43
      rw [h43'] at e43
      have HR : Hid (pairsF p q v = [(p, q)] ++ [(q, p)]) := by rw [HP.out, if_pos h45, if_pos h43]; rfl
      clear HP h45 h45' h43 h43'
      generalize (v.toNat : Int) = vv at *
      go_enter Try.func30, Try.ntmps30
      go_wp2_with (first
        | (at_builtin; refine wpList_append_src _ rfl (.tmp 11) (.tmp 15) _ rfl base 46 i0 _ 2 16 Try.underlying31 Hi.out Hz0.out Hz1.out Hz2.out rfl (by omega) u o.length (cellsQ o) rfl HO1.out (some ⟨w.heap.size, 0, none⟩) 1 1 [.int .i64 p, .int .i64 q] rfl rfl HS1.out (by simp [Value.oneCell']) (by unfold maxLen; omega) (by omega) hb1 ?_; intro v' w' own' gr' _; have HB' : Hid (Below base w w') := Below.grown HB1.out gr' hb1 (fun k e => (HO1.out.lt k e).1); have hb' : base ≤ w'.heap.size := Nat.le_trans hb HB'.out.size; have HO3 := Lib.hid (row_kept own' ((Q.refl w').alloc (Obj.cells #[.int .i64 q, .int .i64 p] 46)) (Nat.le_refl _)); have HB3 : Hid (Below base w (w'.alloc (Obj.cells #[.int .i64 q, .int .i64 p] 46))) := HB'.out.alloc hb' _; have HS3 := Lib.hid (src_alloc w' [.int .i64 q, .int .i64 p] 46 (0, 0)); clear own' gr' HO1 HB1 HS1 HB')
        | (at_builtin; refine wpList_append_src _ rfl (.tmp 19) (.tmp 23) _ rfl base 46 i0 _ 2 16 Try.underlying31 Hi.out Hz0.out Hz1.out Hz2.out rfl (by omega) v' (o.length + 1) (cellsQ o ++ [.int .i64 p, .int .i64 q]) rfl HO3.out (some ⟨w'.heap.size, 0, none⟩) 1 1 [.int .i64 q, .int .i64 p] rfl rfl HS3.out (by simp [Value.oneCell']) (by unfold maxLen; omega) (by omega) (Nat.le_trans hb HB3.out.size) ?_; intro v2 w2 own2 gr2 _; have Own2 := Lib.hid own2; have HB4 : Hid (Below base w w2) := Below.grown HB3.out gr2 (Nat.le_trans hb HB3.out.size) (fun k e => (HO3.out.lt k e).1); clear own2 gr2))
      go_ret
      exact ⟨v2, rfl, by rw [HR.out, ← List.append_assoc, List.length_append, List.length_append, cellsQ_append, cellsQ_append]; exact Own2.out, HB4.out⟩
theorem parts10_any (A : Option Addr) (n c : Nat) (w : World) :
    Calls Try.prog 28 #[.slice A n c] w fun e w' => e = .returned (.agg #[.int .i64 1, .slice A n c]) ∧ Q w w' := by
  go_enter Try.func28, Try.ntmps28
  go_wp2_with fail
  exact bodyPost_ret (v := .agg #[.int .i64 1, .slice A n c]) (by simp [results, Try.f28, go_sem]) rfl ⟨rfl, (Q.refl w).alloc _⟩
set_option maxHeartbeats 1000000 in
theorem on10_any (s : UInt8) (b : B3) (w : World) :
    Calls Try.prog 35 #[.int .u8 (s.toNat : Int), .bool b.1, .bool b.2.1, .bool b.2.2] w fun e w' => e = .returned (.bool (onF s b)) ∧ w = w' := by
  have e76 : ((s.toNat : Int) == 76) = decide (s = 76) := Ex.byte_is s 76 (by decide)
  have e82 : ((s.toNat : Int) == 82) = decide (s = 82) := Ex.byte_is s 82 (by decide)
  have HT : Hid (onF s b = if s = 76 then b.1 else if s = 82 then b.2.1 else b.2.2) := rfl
  by_cases h1 : s = 76
  · rw [decide_eq_true h1] at e76
    rw [if_pos h1] at HT
    clear e82 h1
    generalize (s.toNat : Int) = ss at *
    go_enter Try.func35, Try.ntmps35
    go_wp2_with fail
    go_ret
    exact ⟨by rw [HT.out]; rfl, rfl⟩
  · rw [decide_eq_false h1] at e76
    rw [if_neg h1] at HT
    by_cases h2 : s = 82
    · rw [decide_eq_true h2] at e82
      rw [if_pos h2] at HT
      clear h1 h2
      generalize (s.toNat : Int) = ss at *
      go_enter Try.func35, Try.ntmps35
      go_wp2_with fail
      go_ret
      exact ⟨by rw [HT.out]; rfl, rfl⟩
    · rw [decide_eq_false h2] at e82
      rw [if_neg h2] at HT
      clear h1 h2
      generalize (s.toNat : Int) = ss at *
      go_enter Try.func35, Try.ntmps35
      go_wp2_with fail
      go_ret
      exact ⟨by rw [HT.out]; rfl, rfl⟩
end Go.Proofs.Ytjehccemilefgaa.St
