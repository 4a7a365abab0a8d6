/-
  What the proofs lean on, part 4 of 16.
-/
import Derived.Test.YtjehccemilefgaaPa
import Derived.Test.YtjehccemilefgaaPb
import Derived.Test.YtjehccemilefgaaPc
import Derived.Laws.StructEq
import Derived.ChangeKeysEq
import Derived.Deep.RegionHeld
import Derived.Laws.EntriesVeiled
import Derived.Deep.RegionHeld3
namespace Go.Proofs.Ytjehccemilefgaa.Nm
open Go.RowKit Kit

def inB (lo hi c : Int) : Bool := decide (lo ≤ c) && decide (c ≤ hi)

def goesB (c : Int) : Bool := inB 97 122 c || inB 65 90 c || inB 48 57 c || (c == 95)

theorem take_snoc (s : ByteArray) (k : Nat) (h : k < s.size) : s.data.toList.take (k + 1) = s.data.toList.take k ++ [s[k]] := by
  rw [List.take_succ_eq_append_getElem (by simpa using h)]; rfl

def restB (l : List UInt8) : Bool := (l.drop 1).all fun c => goesB c.toNat
/-- a name whose first byte lies from lo to hi -/
def nameB (lo hi : Int) (l : List UInt8) : Bool :=
  match l with
  | [] => false
  | c :: _ => decide (l.length ≤ 20) && inB lo hi c.toNat && restB l

theorem small_any (c : Int) (w : World) :
    Calls Try.prog 63 #[.int .u8 c] w fun e w' => e = .returned (.bool (inB 97 122 c)) ∧ w = w' := by
  by_cases h : 97 ≤ c
  · have d : decide (97 ≤ c) = true := by simpa using h
    have HR : Hid (inB 97 122 c = decide (c ≤ 122)) := by unfold Hid inB; rw [d]; rfl
    go_enter Try.func63, Try.ntmps63
    go_wp2_with fail
    go_ret
    exact ⟨by rw [HR.out]; rfl, rfl⟩
  · have d : decide (97 ≤ c) = false := by simpa using h
    have HR : Hid (inB 97 122 c = false) := by unfold Hid inB; rw [d]; rfl
    go_enter Try.func63, Try.ntmps63
    go_wp2_with fail
    go_ret
    exact ⟨by rw [HR.out]; rfl, rfl⟩
theorem big_any (c : Int) (w : World) :
    Calls Try.prog 83 #[.int .u8 c] w fun e w' => e = .returned (.bool (inB 65 90 c)) ∧ w = w' := by
  by_cases h : 65 ≤ c
  · have d : decide (65 ≤ c) = true := by simpa using h
    have HR : Hid (inB 65 90 c = decide (c ≤ 90)) := by unfold Hid inB; rw [d]; rfl
    go_enter Try.func83, Try.ntmps83
    go_wp2_with fail
    go_ret
    exact ⟨by rw [HR.out]; rfl, rfl⟩
  · have d : decide (65 ≤ c) = false := by simpa using h
    have HR : Hid (inB 65 90 c = false) := by unfold Hid inB; rw [d]; rfl
    go_enter Try.func83, Try.ntmps83
    go_wp2_with fail
    go_ret
    exact ⟨by rw [HR.out]; rfl, rfl⟩

def letB (c : Int) : Bool := inB 97 122 c || inB 65 90 c
def figB (c : Int) : Bool := inB 48 57 c || (c == 95)
def okAt (k : Nat) (c : Int) : Bool := letB c || (!(k == 0) && figB c)
def okFrom : List UInt8 → Nat → Bool
  | [], _ => true
  | c :: l, k => okAt k c.toNat && okFrom l (k + 1)
def nmB (l : List UInt8) : Bool := decide (1 ≤ l.length) && decide (l.length ≤ 20) && okFrom l 0
theorem okFrom_at (l : List UInt8) (k : Nat) (h : k < l.length) : okFrom (l.drop k) k = (okAt k l[k].toNat && okFrom (l.drop (k + 1)) (k + 1)) := by
  rw [List.drop_eq_getElem_cons h]; rfl
theorem okFrom_end (l : List UInt8) (k : Nat) (h : l.length ≤ k) : okFrom (l.drop k) k = true := by
  rw [List.drop_eq_nil_of_le h]; rfl
theorem okFrom_rest : ∀ (l : List UInt8) (k : Nat), okFrom l (k + 1) = l.all fun c => goesB c.toNat
  | [], _ => rfl
  | c :: l, k => by
    show (okAt (k + 1) c.toNat && okFrom l (k + 2)) = (goesB c.toNat && _)
    rw [okFrom_rest l (k + 1)]
    have e : okAt (k + 1) c.toNat = goesB c.toNat := by
      unfold okAt letB figB goesB
      generalize inB 97 122 c.toNat = p, inB 65 90 c.toNat = q, inB 48 57 c.toNat = r, ((c.toNat : Int) == 95) = t
      rw [show ((k + 1) == 0) = false by simp]
      revert p q r t; decide
    rw [e]
theorem con_of_nm (l : List UInt8) (h : 0 < l.length) : (nmB l && inB 97 122 (l[0].toNat : Int)) = nameB 97 122 l := by
  match l, h with
  | c :: l, _ =>
    simp only [List.getElem_cons_zero]
    show (decide (1 ≤ (c :: l).length) && decide ((c :: l).length ≤ 20) && (okAt 0 c.toNat && okFrom l (0 + 1)) && _) = (decide ((c :: l).length ≤ 20) && inB 97 122 c.toNat && l.all _)
    rw [okFrom_rest l 0, decide_eq_true (by simp : 1 ≤ (c :: l).length)]
    unfold okAt letB
    generalize inB 97 122 c.toNat = p, inB 65 90 c.toNat = q, (l.all fun c => goesB c.toNat) = r, decide ((c :: l).length ≤ 20) = t, figB c.toNat = u
    revert p q r t u; decide

set_option maxRecDepth 100000 in
set_option maxHeartbeats 400000 in
theorem name_any (s : ByteArray) (w : World) :
    Calls Try.prog 62 #[.string s] w fun e w' => e = .returned (.bool (nmB s.data.toList)) ∧ w = w' := by
  have hlen : s.data.toList.length = s.size := by simp
  by_cases h0 : s.size < 1
  · have HR : Hid (nmB s.data.toList = false) := by unfold Hid nmB; rw [hlen, decide_eq_false (by omega)]; rfl
    clear hlen
    go_enter Try.func62, Try.ntmps62
    go_wp2_with fail
    go_ret
    exact ⟨by rw [HR.out]; rfl, rfl⟩
  · by_cases h20 : 20 < s.size
    · have HR : Hid (nmB s.data.toList = false) := by unfold Hid nmB; rw [hlen, decide_eq_false (by omega : ¬ s.size ≤ 20), Bool.and_false]; rfl
      clear hlen
      go_enter Try.func62, Try.ntmps62
      go_wp2_with fail
      go_ret
      exact ⟨by rw [HR.out]; rfl, rfl⟩
    · have HR : Hid (nmB s.data.toList = okFrom s.data.toList 0) := by unfold Hid nmB; rw [hlen, decide_eq_true (by omega), decide_eq_true (by omega)]; rfl
      have d1 : decide ((s.size : Int) < 1) = false := by simp; omega
      have d2 : decide (20 < (s.size : Int)) = false := by simp; omega
      clear hlen
      go_enter Try.func62, Try.ntmps62
      go_wp2_with fail
      go_loop [3, 4, 5] (fun i _ _ => ∃ k : Nat, k ≤ s.size ∧ i = .int .i64 k ∧ Hid (okFrom s.data.toList 0 = okFrom (s.data.toList.drop k) k)) (fun i _ _ => s.size - (intOf i).toNat)
      case atStart => exact ⟨0, Nat.zero_le _, rfl, Lib.hid (by simp)⟩
      case round =>
        obtain ⟨k, hk, rfl, HF⟩ := hrel
        by_cases hlt : k < s.size
        · have HS : Hid (okFrom (s.data.toList.drop k) k = (okAt k s[k].toNat && okFrom (s.data.toList.drop (k + 1)) (k + 1))) := okFrom_at s.data.toList k (by simpa using hlt)
          go_upto_region 6 with fail
          go_cut [4] (fun f wx => f = .bool (figB s[k].toNat) ∧ wx = w)
          case first =>
            go_wp2_with fail
            all_goals go_meet
            all_goals
              refine ⟨congrArg Value.bool ?_, rfl⟩
              rw [Bool.eq_iff_iff]
              simp only [figB, inB, Bool.or_eq_true, Bool.and_eq_true, decide_eq_true_eq, beq_iff_eq]
              first | omega | (refine ⟨fun _ => ?_, fun _ => trivial⟩; omega)
          case rest =>
            obtain ⟨rfl, rfl⟩ := hcut
            have HO : Hid (okAt k s[k].toNat = (inB 97 122 s[k].toNat || inB 65 90 s[k].toNat || (!(k == 0) && figB s[k].toNat))) := rfl
            cases hp : inB 97 122 s[k].toNat
            · cases hq : inB 65 90 s[k].toNat
              · by_cases hk0 : k = 0
                · have HS' : Hid (okFrom (s.data.toList.drop k) k = false) := by unfold Hid; rw [HS.out, HO.out, hp, hq, show (k == 0) = true by simpa using hk0]; rfl
                  have hk0' : ((k : Int) == 0) = true := by simpa using hk0
                  clear hk0
                  go_wp2_with (first | (go_at_call 63; refine (small_any _ _).mono ?_; rintro e w' ⟨rfl, rfl⟩) | (go_at_call 83; refine (big_any _ _).mono ?_; rintro e w' ⟨rfl, rfl⟩))
                  go_ret
                  exact ⟨by rw [HR.out, HF.out, HS'.out]; rfl, rfl⟩
                · have hk0' : ((k : Int) == 0) = false := by simpa using hk0
                  have hk1 : (k == 0) = false := by simpa using hk0
                  cases hf : figB s[k].toNat
                  · have HS' : Hid (okFrom (s.data.toList.drop k) k = false) := by unfold Hid; rw [HS.out, HO.out, hp, hq, hk1, hf]; rfl
                    clear hk0 hk1
                    go_wp2_with (first | (go_at_call 63; refine (small_any _ _).mono ?_; rintro e w' ⟨rfl, rfl⟩) | (go_at_call 83; refine (big_any _ _).mono ?_; rintro e w' ⟨rfl, rfl⟩))
                    go_ret
                    exact ⟨by rw [HR.out, HF.out, HS'.out]; rfl, rfl⟩
                  · have HS' : Hid (okFrom (s.data.toList.drop k) k = okFrom (s.data.toList.drop (k + 1)) (k + 1)) := by unfold Hid; rw [HS.out, HO.out, hp, hq, hk1, hf]; rfl
                    clear hk0 hk1
                    go_wp2_with (first | (go_at_call 63; refine (small_any _ _).mono ?_; rintro e w' ⟨rfl, rfl⟩) | (go_at_call 83; refine (big_any _ _).mono ?_; rintro e w' ⟨rfl, rfl⟩))
                    go_round
                    case rel => exact ⟨k + 1, by omega, by go_num, Lib.hid (HF.out.trans HS'.out)⟩
                    case measure => simp [intOf]; omega
              · have HS' : Hid (okFrom (s.data.toList.drop k) k = okFrom (s.data.toList.drop (k + 1)) (k + 1)) := by unfold Hid; rw [HS.out, HO.out, hp, hq]; rfl
                go_wp2_with (first | (go_at_call 63; refine (small_any _ _).mono ?_; rintro e w' ⟨rfl, rfl⟩) | (go_at_call 83; refine (big_any _ _).mono ?_; rintro e w' ⟨rfl, rfl⟩))
                go_round
                case rel => exact ⟨k + 1, by omega, by go_num, Lib.hid (HF.out.trans HS'.out)⟩
                case measure => simp [intOf]; omega
            · have HS' : Hid (okFrom (s.data.toList.drop k) k = okFrom (s.data.toList.drop (k + 1)) (k + 1)) := by unfold Hid; rw [HS.out, HO.out, hp]; rfl
              go_wp2_with (first | (go_at_call 63; refine (small_any _ _).mono ?_; rintro e w' ⟨rfl, rfl⟩) | (go_at_call 83; refine (big_any _ _).mono ?_; rintro e w' ⟨rfl, rfl⟩))
              go_round
              case rel => exact ⟨k + 1, by omega, by go_num, Lib.hid (HF.out.trans HS'.out)⟩
              case measure => simp [intOf]; omega
        · have HS := Lib.hid (okFrom_end s.data.toList k (by simp; omega))
          go_wp2_with fail
          go_ret
          exact ⟨by rw [HR.out, HF.out, HS.out]; rfl, rfl⟩

set_option maxRecDepth 100000 in
set_option maxHeartbeats 400000 in
theorem con_any (s : ByteArray) (w : World) :
    Calls Try.prog 44 #[.string s] w fun e w' => e = .returned (.bool (nameB 97 122 s.data.toList)) ∧ w = w' := by
  by_cases h0 : 0 < s.size
  · have HC : Hid ((nmB s.data.toList && inB 97 122 s[0].toNat) = nameB 97 122 s.data.toList) := con_of_nm s.data.toList (by simpa using h0)
    cases hn : nmB s.data.toList
    · rw [hn] at HC
      go_enter Try.func44, Try.ntmps44
      go_wp2_with fail
      refine (name_any _ _).mono ?_
      rintro e w1 ⟨rfl, rfl⟩
      go_wp2_with fail
      go_ret
      exact ⟨by rw [← HC.out]; rfl, rfl⟩
    · rw [hn] at HC
      go_enter Try.func44, Try.ntmps44
      go_wp2_with fail
      refine (name_any _ _).mono ?_
      rintro e w1 ⟨rfl, rfl⟩
      go_wp2_with fail
      refine (small_any _ _).mono ?_
      rintro e w1 ⟨rfl, rfl⟩
      go_wp2_with fail
      go_ret
      exact ⟨by rw [← HC.out]; rfl, rfl⟩
  · have e : s.data.toList = [] := List.eq_nil_of_length_eq_zero (by have : s.data.toList.length = s.size := by simp
                                                                     omega)
    have hn : nmB s.data.toList = false := by rw [e]; rfl
    have HR : Hid (nameB 97 122 s.data.toList = false) := by unfold Hid; rw [e]; rfl
    clear e
    go_enter Try.func44, Try.ntmps44
    go_wp2_with fail
    refine (name_any _ _).mono ?_
    rintro e w1 ⟨rfl, rfl⟩
    go_wp2_with fail
    go_ret
    exact ⟨by rw [HR.out]; rfl, rfl⟩

end Go.Proofs.Ytjehccemilefgaa.Nm

namespace Go.Proofs.Ytjehccemilefgaa.Ex
open Go.RowKit Kit Rw Go.Proofs.Ytjehccemilefgaa.Nm

theorem part_int (w : World) (xs : Array Value) (k : Nat) (x : Int) (h : xs[k]? = some (.int .i64 x)) : (part 3 xs k).run Try.prog w = .ok (.int .i64 x) w := run_part_plain w (by kernel_rfl) h
/-- how many parts a node has -/
def partsN (t : Tg) : Int := if t.1 = 6 then 1 else t.2.2
end Go.Proofs.Ytjehccemilefgaa.Ex

namespace Go.Proofs.Ytjehccemilefgaa.Ex
open Go.RowKit Kit Rw Go.Proofs.Ytjehccemilefgaa.Nm

inductive Ex where
  | mk (n : Tg) (ks : List Ex) : Ex
mutual
def Ex.nodes : Ex → List Tg
  | .mk n ks => nodesL ks ++ [n]
def nodesL : List Ex → List Tg
  | [] => []
  | e :: r => e.nodes ++ nodesL r
end
def Ex.size (e : Ex) : Nat := e.nodes.length
/-- how many parts, as a length -/
def np (t : Tg) : Nat := (partsN t).toNat
mutual
def Ex.wf : Ex → Prop
  | .mk n ks => ks.length = np n ∧ wfL ks
def wfL : List Ex → Prop
  | [] => True
  | e :: r => e.wf ∧ wfL r
end
def push (st : List Ex) (n : Tg) : Option (List Ex) := if np n ≤ st.length then some (.mk n (st.take (np n)).reverse :: st.drop (np n)) else none
end Go.Proofs.Ytjehccemilefgaa.Ex

namespace Go.Proofs.Ytjehccemilefgaa.Ex
open Go.RowKit Kit Rw Go.Proofs.Ytjehccemilefgaa.Nm

def cellsI (l : List Int) : List Value := l.map (Value.int .i64)
theorem cellsI_one (l : List Int) : ∀ u ∈ cellsI l, u.oneCell' = true := fun u hu => by
  obtain ⟨x, _, rfl⟩ := List.mem_map.1 hu; rfl
theorem intInfo : (Try.prog.info? 3).map (fun i => (i.zero, i.size, i.bytes)) = some (some (.int .i64 0), 1, 8) := by kernel_rfl
end Go.Proofs.Ytjehccemilefgaa.Ex

namespace Go.Proofs.Ytjehccemilefgaa.Ex
open Go.RowKit Kit Rw Go.Proofs.Ytjehccemilefgaa.Nm

end Go.Proofs.Ytjehccemilefgaa.Ex

namespace Go.Proofs.Ytjehccemilefgaa.Ex
open Go.RowKit Kit Rw
open Go.Proofs.Ytjehccemilefgaa.Sg (Sig findI)
theorem own_new8 (w : World) (cs : List Value) (t : TypeId) : OwnC (w.alloc (.cells cs.toArray t)) w.heap.size cs :=
  ⟨by simp, fun j v hv => ⟨by have := (src_alloc w cs t (0, 0)) (by have := (List.getElem?_eq_some_iff.1 hv).1; omega); obtain ⟨ad, e, h⟩ := this; injection e with e; subst e; have := h j v hv; rwa [add_zero_head] at this, World.frozen?_alloc_at _ _ _ _ rfl⟩⟩
def turnB (s v : UInt8) : UInt8 := if v = 43 then s else if v = 45 ∧ s = 76 then 82 else if v = 45 ∧ s = 82 then 76 else 66
end Go.Proofs.Ytjehccemilefgaa.Ex

namespace Go.Proofs.Ytjehccemilefgaa.Ex
open Go.RowKit Kit Rw Go.Proofs.Ytjehccemilefgaa.Nm

end Go.Proofs.Ytjehccemilefgaa.Ex

namespace Go.Proofs.Ytjehccemilefgaa.Ex
open Go.RowKit Kit Rw Go.Proofs.Ytjehccemilefgaa.Nm

end Go.Proofs.Ytjehccemilefgaa.Ex

namespace Go.Proofs.Ytjehccemilefgaa.Ex
open Go.RowKit Kit Rw
open Go.Proofs.Ytjehccemilefgaa.Sg (Sig findI Row refFind_any)
end Go.Proofs.Ytjehccemilefgaa.Ex

namespace Go.Proofs.Ytjehccemilefgaa.Ld
open Go.RowKit Kit Rw
open Go.Proofs.Ytjehccemilefgaa.Sg (Sig findI)
open Go.Proofs.Ytjehccemilefgaa.Hs (Dist atI atI_some)
open Go.Proofs.Ytjehccemilefgaa.Tm (Tm Store mayB keyOk ofKey standB isPl isPl_iff allPl hasB)
open Go.Proofs.Ytjehccemilefgaa.Ex (Ex np push)
section
variable {L : List Sig} {ks : List (List Int)} {own : List ByteArray}
end

section
variable {L : List Sig} {ks : List (List Int)} {own : List ByteArray}
end
end Go.Proofs.Ytjehccemilefgaa.Ld

namespace Go.Proofs.Ytjehccemilefgaa.Ld
open Go.RowKit Kit Rw
open Go.Proofs.Ytjehccemilefgaa.Sg (Sig findI)
open Go.Proofs.Ytjehccemilefgaa.Nm (nameB)
open Go.Proofs.Ytjehccemilefgaa.Hs (Dist atI atI_some)
open Go.Proofs.Ytjehccemilefgaa.Tm (Tm Store mayB keyOk ofKey standB isPl isPl_iff allPl hasB)
open Go.Proofs.Ytjehccemilefgaa.Ex (Ex np push)
end Go.Proofs.Ytjehccemilefgaa.Ld

namespace Go.Proofs.Ytjehccemilefgaa.Tm
open Go.RowKit Kit Hs

end Go.Proofs.Ytjehccemilefgaa.Tm

namespace Go.Proofs.Ytjehccemilefgaa.Ld
open Go.RowKit Kit Rw
open Go.Proofs.Ytjehccemilefgaa.Sg (Sig findI)
open Go.Proofs.Ytjehccemilefgaa.Nm (nameB)
open Go.Proofs.Ytjehccemilefgaa.Hs (Dist atI atI_some)
open Go.Proofs.Ytjehccemilefgaa.Tm (Tm Store mayB keyOk ofKey standB isPl isPl_iff allPl hasB termAt ofKey_at)
open Go.Proofs.Ytjehccemilefgaa.Ex (Ex np push)
def tmP (ks : List (List Int)) (i : Nat) : Tm := ofKey (ks[i]?.getD [])
section
variable {L : List Sig} {names : List ByteArray} {ks : List (List Int)}
/-- the parts of a term of a store stand ahead -/
theorem parts_ahead (hS : Store L ks) {i : Nat} {key : List Int} (h : ks[i]? = some key) : 3 ≤ key.length ∧ mayB L i (ofKey key) = true ∧ ∀ x ∈ (ofKey key).xs, 0 ≤ x ∧ x < (i : Int) := by
  have h1 := hS.ok i key h
  unfold keyOk at h1
  simp only [Bool.and_eq_true, decide_eq_true_eq] at h1
  refine ⟨h1.1.1, h1.1.2, fun x hx => ?_⟩
  have h2 := h1.1.2
  unfold mayB at h2
  simp only [Bool.and_eq_true] at h2
  have h3 := h2.2
  unfold allPl at h3
  rw [List.all_eq_true] at h3
  exact (isPl_iff _ _).1 (h3 x hx)
end
end Go.Proofs.Ytjehccemilefgaa.Ld

namespace Go.Proofs.Ytjehccemilefgaa.St
open Go.RowKit Kit Rw
open Go.Proofs.Ytjehccemilefgaa.Sg (Sig)
open Go.Proofs.Ytjehccemilefgaa.Tm (Tm Store ofKey termAt termAt_at mayB standB hasB isPl isPl_iff arity arity_at partsN isKindB)
open Go.Proofs.Ytjehccemilefgaa.Ld (tmP parts_ahead)
open Go.Proofs.Ytjehccemilefgaa.Ex (turnB)
inductive TOk (L : List Sig) (n : Nat) : Tm → Prop where
  | leaf (t : Tm) : t.xs = [] → (t.k = 0 ∨ t.k = 1 ∨ t.k = 2) → TOk L n t
  | con (t : Tm) (j : Nat) (h : j < L.length) : t.k = 3 → t.s = (j : Int) → t.xs.length = L[j].2.size → (∀ x ∈ t.xs, 0 ≤ x ∧ x < (n : Int)) → TOk L n t
  | two (t : Tm) (a b : Int) : (t.k = 4 ∨ t.k = 5) → t.xs = [a, b] → (0 ≤ a ∧ a < (n : Int)) → (0 ≤ b ∧ b < (n : Int)) → TOk L n t
  | proj (t : Tm) (j m : Nat) (h : j < L.length) (e : Int) : t.k = 6 → t.s = (j : Int) → t.p = (m : Int) → m < L[j].2.size → t.xs = [e] → (0 ≤ e ∧ e < (n : Int)) → TOk L n t
theorem may_tok {L : List Sig} {n : Nat} {t : Tm} (h : mayB L n t = true) : TOk L n t := by
  unfold mayB at h
  simp only [Bool.and_eq_true] at h
  obtain ⟨⟨h1, h2⟩, h3⟩ := h
  have hx : ∀ x ∈ t.xs, 0 ≤ x ∧ x < (n : Int) := fun x hx => by
    unfold Tm.allPl at h3
    have := List.all_eq_true.1 h3 x hx
    exact (isPl_iff _ _).1 this
  unfold standB at h1
  unfold hasB at h2
  by_cases k2 : t.k = 2
  · rw [if_neg (by omega)] at h2
    simp only [Bool.and_eq_true, beq_iff_eq] at h2
    have := h2.2
    unfold partsN at this
    rw [if_neg (by omega), if_neg (by omega), if_neg (by omega)] at this
    exact .leaf t (List.length_eq_zero_iff.1 (by omega)) (.inr (.inr k2))
  · rw [if_neg k2] at h1
    by_cases k3 : t.k = 3
    · rw [if_pos k3] at h1 h2
      simp only [Bool.and_eq_true, beq_iff_eq] at h1 h2
      obtain ⟨p1, p2⟩ := (isPl_iff _ _).1 h1.1
      obtain ⟨j, hj⟩ := Int.eq_ofNat_of_zero_le p1
      have hjl : j < L.length := by omega
      rw [hj, arity_at hjl] at h2
      exact .con t j hjl k3 hj (by omega) hx
    · rw [if_neg k3] at h1 h2
      simp only [Bool.and_eq_true, beq_iff_eq] at h2
      obtain ⟨hk, hl⟩ := h2
      by_cases k6 : t.k = 6
      · rw [if_pos k6] at h1
        simp only [Bool.and_eq_true] at h1
        obtain ⟨p1, p2⟩ := (isPl_iff _ _).1 h1.1
        obtain ⟨j, hj⟩ := Int.eq_ofNat_of_zero_le p1
        have hjl : j < L.length := by omega
        rw [hj, arity_at hjl] at h1
        obtain ⟨q1, q2⟩ := (isPl_iff _ _).1 h1.2
        obtain ⟨m, hm⟩ := Int.eq_ofNat_of_zero_le q1
        unfold partsN at hl
        rw [if_neg (by omega), if_neg (by omega), if_pos k6] at hl
        obtain ⟨e, he⟩ : ∃ e, t.xs = [e] := by
          match hxs : t.xs, hl with
          | [e], _ => exact ⟨e, rfl⟩
          | [], hl => simp at hl
          | _ :: _ :: _, hl => simp at hl; omega
        exact .proj t j m hjl e k6 hj hm (by omega) he (hx e (by simp [he]))
      · unfold partsN at hl
        by_cases k45 : t.k = 4 ∨ t.k = 5
        · have hl2 : (t.xs.length : Int) = 2 := by
            rcases k45 with k | k
            · rw [if_pos k] at hl; exact hl
            · rw [if_neg (by omega), if_pos k] at hl; exact hl
          obtain ⟨a, b, he⟩ : ∃ a b, t.xs = [a, b] := by
            match hxs : t.xs, hl2 with
            | [a, b], _ => exact ⟨a, b, rfl⟩
            | [], hl => simp at hl
            | [_], hl => simp at hl
            | _ :: _ :: _ :: _, hl => simp at hl; omega
          exact .two t a b k45 he (hx a (by simp [he])) (hx b (by simp [he]))
        · rw [if_neg (by omega), if_neg (by omega), if_neg (by omega)] at hl
          unfold isKindB at hk
          simp only [Bool.or_eq_true, beq_iff_eq] at hk
          exact .leaf t (List.length_eq_zero_iff.1 (by omega)) (by omega)
theorem tmP_is {ks : List (List Int)} {i : Nat} (h : i < ks.length) : tmP ks i = ofKey ks[i] := by
  unfold tmP
  rw [List.getElem?_eq_getElem h]; rfl
theorem place_tok {L : List Sig} {ks : List (List Int)} (hS : Store L ks) {i : Nat} (hi : i < ks.length) : TOk L i (tmP ks i) ∧ termAt ks (i : Int) = some (tmP ks i) := by
  have hk := List.getElem?_eq_getElem hi
  obtain ⟨h3, hM, _⟩ := parts_ahead hS hk
  have e : tmP ks i = ofKey ks[i] := by unfold tmP; rw [hk]; rfl
  rw [e]
  exact ⟨may_tok hM, termAt_at hi h3⟩

abbrev PI := Int × Int
/-- how the part k of the constructor of a number varies -/
def varyN (L : List Sig) (s : Int) (k : Nat) : UInt8 := (((L[s.toNat]?.map fun g : Sig => g.2).getD (⟨#[]⟩ : ByteArray)).data.toList)[k]?.getD 0
def pairsF (p q : Int) (v : UInt8) : List PI := (if v ≠ 45 then [(p, q)] else []) ++ (if v ≠ 43 then [(q, p)] else [])
def conF (L : List Sig) (s : Int) : Nat → List Int → List Int → List PI
  | k, a :: l, b :: m => pairsF a b (varyN L s k) ++ conF L s (k + 1) l m
  | _, _, _ => []
def projF (L : List Sig) (s t : Tm) : Int × List PI :=
  if s.k = 1 then (1, (if varyN L t.s t.p.toNat ≠ 45 then [(1, t.xs.headD 0)] else []) ++ (if varyN L t.s t.p.toNat ≠ 43 then [(t.xs.headD 0, 0)] else []))
  else if s.k = 3 ∧ s.s = t.s then (1, pairsF (s.xs[t.p.toNat]?.getD 0) (t.xs.headD 0) (varyN L t.s t.p.toNat)) else (0, [])
def stepT (L : List Sig) (x y : Int) (s t : Tm) : Int × List PI :=
  if x = y ∨ s.k = 0 ∨ t.k = 1 then (0, [])
  else if s.k = 4 then (1, [(s.xs[0]?.getD 0, y), (s.xs[1]?.getD 0, y)])
  else if t.k = 5 then (1, [(x, t.xs[0]?.getD 0), (x, t.xs[1]?.getD 0)])
  else if s.k = 2 ∨ t.k = 2 then (2, [])
  else if t.k = 6 then projF L s t
  else if s.k = 3 ∧ t.k = 3 ∧ s.s = t.s then (1, conF L s.s 0 s.xs t.xs)
  else if (s.k = 1 ∨ s.k = 3) ∧ (t.k = 0 ∨ t.k = 3) then (3, [])
  else (0, [])
def stepF (L : List Sig) (ks : List (List Int)) (x y : Int) : Int × List PI :=
  match termAt ks x, termAt ks y with
  | some s, some t => stepT L x y s t
  | _, _ => (0, [])
theorem stepF_at {L : List Sig} {ks : List (List Int)} (hS : Store L ks) {i j : Nat} (hi : i < ks.length) (hj : j < ks.length) : stepF L ks (i : Int) (j : Int) = stepT L i j (tmP ks i) (tmP ks j) := by
  unfold stepF
  rw [(place_tok hS hi).2, (place_tok hS hj).2]
theorem stepF_no {L : List Sig} {ks : List (List Int)} {x y : Int} (h : ¬ (isPl x ks.length = true ∧ isPl y ks.length = true)) : stepF L ks x y = (0, []) := by
  have none_of : ∀ z, isPl z ks.length ≠ true → termAt ks z = none := fun z hz => by
    unfold termAt
    rw [if_neg]
    simp only [Bool.and_eq_true]
    exact fun h => hz h.1
  unfold stepF
  by_cases hx : isPl x ks.length = true
  · have hy : isPl y ks.length ≠ true := fun hy => h ⟨hx, hy⟩
    rw [none_of y hy]
    cases termAt ks x <;> rfl
  · rw [none_of x hx]
theorem varyN_at {L : List Sig} {j m : Nat} (h : j < L.length) (hm : m < L[j].2.size) : varyN L (j : Int) m = L[j].2[m] := by
  unfold varyN
  rw [Int.toNat_natCast, List.getElem?_eq_getElem h]
  simp only [Option.map_some, Option.getD_some]
  have : m < L[j].2.data.toList.length := by simpa using hm
  rw [List.getElem?_eq_getElem this]
  rfl

theorem pairsF_mem {p q : Int} {v : UInt8} {z : PI} : z ∈ pairsF p q v ↔ (v ≠ 45 ∧ z = (p, q)) ∨ (v ≠ 43 ∧ z = (q, p)) := by
  unfold pairsF
  rw [List.mem_append]
  by_cases h1 : v = 45 <;> by_cases h2 : v = 43 <;> simp [h1, h2]
theorem conF_mem {L : List Sig} {s : Int} : ∀ (k : Nat) (l m : List Int) (z : PI), z ∈ conF L s k l m → ∃ (i : Nat) (a b : Int), l[i]? = some a ∧ m[i]? = some b ∧ z ∈ pairsF a b (varyN L s (k + i))
  | k, a :: l, b :: m, z, h => by
    rw [conF, List.mem_append] at h
    rcases h with h | h
    · exact ⟨0, a, b, rfl, rfl, by simpa using h⟩
    · obtain ⟨i, a', b', h1, h2, h3⟩ := conF_mem (k + 1) l m z h
      exact ⟨i + 1, a', b', by simpa using h1, by simpa using h2, by rw [show k + (i + 1) = k + 1 + i by omega]; exact h3⟩
  | _, [], _, z, h => by simp [conF] at h
  | _, _ :: _, [], z, h => by simp [conF] at h
theorem conF_at {L : List Sig} {s : Int} (l m : List Int) (i : Nat) (h1 : i < l.length) (h2 : i < m.length) : conF L s i (l.drop i) (m.drop i) = pairsF l[i] m[i] (varyN L s i) ++ conF L s (i + 1) (l.drop (i + 1)) (m.drop (i + 1)) := by
  rw [List.drop_eq_getElem_cons h1, List.drop_eq_getElem_cons h2]; rfl
theorem conF_end {L : List Sig} {s : Int} (l m : List Int) (i : Nat) (h : l.length ≤ i) : conF L s i (l.drop i) (m.drop i) = [] := by
  rw [List.drop_of_length_le h]; rfl
theorem pairsF_len (p q : Int) (v : UInt8) : (pairsF p q v).length ≤ 2 := by
  unfold pairsF
  rw [List.length_append]
  split <;> split <;> simp
end Go.Proofs.Ytjehccemilefgaa.St

namespace Go.Proofs.Ytjehccemilefgaa.St
open Go.RowKit Kit Rw
open Go.Proofs.Ytjehccemilefgaa.Sg (Sig)
open Go.Proofs.Ytjehccemilefgaa.Tm (Tm Store ofKey termAt isPl isPl_iff)
open Go.Proofs.Ytjehccemilefgaa.Ld (tmP parts_ahead)
open Go.Proofs.Ytjehccemilefgaa.Ex (turnB)
abbrev B3 := Bool × Bool × Bool
def onF (side : UInt8) (b : B3) : Bool := if side = 76 then b.1 else if side = 82 then b.2.1 else b.2.2
def varyT (L : List Sig) (t : Tm) (k : Nat) : UInt8 := if t.k = 3 then varyN L t.s k else if t.k = 6 then varyN L t.s t.p.toNat else 43
def allS (L : List Sig) (t : Tm) (f : Int → B3) (s : UInt8) : Nat → List Int → Bool
  | _, [] => true
  | k, x :: l => onF (turnB s (varyT L t k)) (f x) && allS L t f s (k + 1) l
def may3 (t : Tm) : B3 := (decide (¬ t.k = 5 ∧ ¬ t.k = 6), decide (¬ t.k = 4), decide (¬ t.k = 5 ∧ ¬ t.k = 6 ∧ ¬ t.k = 4))
def own3 (L : List Sig) (t : Tm) (f : Int → B3) : B3 := ((may3 t).1 && allS L t f 76 0 t.xs, (may3 t).2.1 && allS L t f 82 0 t.xs, (may3 t).2.2 && allS L t f 66 0 t.xs)
def sdS (L : List Sig) (ks : List (List Int)) : Nat → List B3
  | 0 => []
  | i + 1 => sdS L ks i ++ [own3 L (tmP ks i) fun a => (sdS L ks i)[a.toNat]?.getD (false, false, false)]
def sdP (L : List Sig) (ks : List (List Int)) (i : Nat) : B3 := (sdS L ks (i + 1))[i]?.getD (false, false, false)
def sidedF (L : List Sig) (ks : List (List Int)) (id : Int) (side : UInt8) : Bool := isPl id ks.length && onF side (sdP L ks id.toNat)
section
variable {L : List Sig} {ks : List (List Int)}
theorem sdS_len : ∀ (i : Nat), (sdS L ks i).length = i
  | 0 => rfl
  | i + 1 => by rw [sdS, List.length_append, sdS_len i]; rfl
theorem sdS_get {j : Nat} : ∀ {i : Nat}, j < i → (sdS L ks i)[j]? = some (sdP L ks j)
  | i + 1, h => by
    by_cases hj : j = i
    · subst hj
      unfold sdP
      have : j < (sdS L ks (j + 1)).length := by rw [sdS_len]; omega
      rw [List.getElem?_eq_getElem this]; rfl
    · rw [sdS, List.getElem?_append_left (by rw [sdS_len]; omega)]
      exact sdS_get (by omega)
theorem allS_congr {t : Tm} {f g : Int → B3} {s : UInt8} : ∀ (k : Nat) (l : List Int), (∀ x ∈ l, f x = g x) → allS L t f s k l = allS L t g s k l
  | _, [], _ => rfl
  | k, x :: l, h => by
    unfold allS
    rw [h x (by simp), allS_congr (k + 1) l fun y hy => h y (by simp [hy])]
theorem sdP_eq (hS : Store L ks) {i : Nat} (hi : i < ks.length) : sdP L ks i = own3 L (tmP ks i) fun a => sdP L ks a.toNat := by
  have e : sdP L ks i = own3 L (tmP ks i) fun a => (sdS L ks i)[a.toNat]?.getD (false, false, false) := by
    unfold sdP
    rw [sdS, List.getElem?_append_right (by rw [sdS_len]; exact Nat.le_refl _), sdS_len, Nat.sub_self]
    rfl
  rw [e]
  have hp := (parts_ahead hS (List.getElem?_eq_getElem hi)).2.2
  rw [← tmP_is hi] at hp
  have : ∀ x ∈ (tmP ks i).xs, (sdS L ks i)[x.toNat]?.getD (false, false, false) = sdP L ks x.toNat := fun x hx => by
    obtain ⟨a, b⟩ := hp x hx
    rw [sdS_get (by omega)]; rfl
  unfold own3
  rw [allS_congr 0 _ this, allS_congr 0 _ this, allS_congr 0 _ this]
theorem allS_iff {t : Tm} {f : Int → B3} {s : UInt8} : ∀ (k : Nat) (l : List Int), allS L t f s k l = true ↔ ∀ (i : Nat) (x : Int), l[i]? = some x → onF (turnB s (varyT L t (k + i))) (f x) = true
  | k, [] => by simp [allS]
  | k, y :: l => by
    unfold allS
    rw [Bool.and_eq_true, allS_iff (k + 1) l]
    constructor
    · rintro ⟨h1, h2⟩ i x hx
      cases i with
      | zero => injection hx with hx; subst hx; exact h1
      | succ i =>
        have := h2 i x (by simpa using hx)
        rwa [show k + 1 + i = k + (i + 1) by omega] at this
    · intro h
      refine ⟨h 0 y rfl, fun i x hx => ?_⟩
      have := h (i + 1) x (by simpa using hx)
      rwa [show k + (i + 1) = k + 1 + i by omega] at this
theorem turn_B (v : UInt8) : turnB 66 v = 66 := by
  unfold turnB
  split
  · rfl
  · rw [if_neg (by rintro ⟨_, h⟩; exact absurd h (by decide)), if_neg (by rintro ⟨_, h⟩; exact absurd h (by decide))]
theorem on_all {s : UInt8} {b : B3} (h1 : b.1 = true) (h2 : b.2.1 = true) (h3 : b.2.2 = true) : onF s b = true := by
  unfold onF
  split
  · exact h1
  · split
    · exact h2
    · exact h3
/-- what may stand on both sides may stand on each -/
theorem both_each (hS : Store L ks) : ∀ (i : Nat), i < ks.length → (sdP L ks i).2.2 = true → (sdP L ks i).1 = true ∧ (sdP L ks i).2.1 = true := by
  intro i
  induction i using Nat.strongRecOn with
  | ind i ih =>
    intro hi h
    have hp := (parts_ahead hS (List.getElem?_eq_getElem hi)).2.2
    rw [← tmP_is hi] at hp
    rw [sdP_eq hS hi] at h ⊢
    unfold own3 at h ⊢
    simp only [Bool.and_eq_true] at h ⊢
    obtain ⟨h1, h2⟩ := h
    unfold may3 at h1
    simp only [decide_eq_true_eq] at h1
    rw [allS_iff] at h2
    have all : ∀ (s : UInt8), allS L (tmP ks i) (fun a => sdP L ks a.toNat) s 0 (tmP ks i).xs = true := fun s => by
      rw [allS_iff]
      intro k x hx
      have hb := h2 k x hx
      rw [turn_B] at hb
      have hb2 : (sdP L ks x.toNat).2.2 = true := hb
      obtain ⟨a, b⟩ := hp x (List.mem_of_getElem? hx)
      obtain ⟨c, d⟩ := ih x.toNat (by omega) (by omega) hb2
      exact on_all c d hb2
    unfold may3
    simp only [decide_eq_true_eq]
    exact ⟨⟨⟨h1.1, h1.2.1⟩, all 76⟩, h1.2.2, all 82⟩
/-- a part's side -/
theorem part_side (hS : Store L ks) {i : Nat} (hi : i < ks.length) {s : UInt8} (hs : s = 76 ∨ s = 82) (h : onF s (sdP L ks i) = true) {k : Nat} {x : Int} (hx : (tmP ks i).xs[k]? = some x) : onF (turnB s (varyT L (tmP ks i) k)) (sdP L ks x.toNat) = true := by
  rw [sdP_eq hS hi] at h
  unfold own3 onF at h
  rcases hs with rfl | rfl
  · rw [if_pos rfl] at h
    simp only [Bool.and_eq_true] at h
    have := (allS_iff 0 _).1 h.2 k x hx
    rwa [Nat.zero_add] at this
  · rw [if_neg (by decide), if_pos rfl] at h
    simp only [Bool.and_eq_true] at h
    have := (allS_iff 0 _).1 h.2 k x hx
    rwa [Nat.zero_add] at this

inductive Comes (L : List Sig) (i j : Int) (s t : Tm) (z : PI) : Prop where
  | union (k : Nat) (a : Int) : s.k = 4 → s.xs[k]? = some a → z = (a, j) → Comes L i j s t z
  | inter (k : Nat) (b : Int) : t.k = 5 → t.xs[k]? = some b → z = (i, b) → Comes L i j s t z
  | one (e : Int) : t.k = 6 → s.k = 1 → t.xs[0]? = some e → (varyN L t.s t.p.toNat ≠ 45 ∧ z = (1, e)) ∨ (varyN L t.s t.p.toNat ≠ 43 ∧ z = (e, 0)) → Comes L i j s t z
  | proj (e a : Int) : t.k = 6 → s.k = 3 → s.s = t.s → t.xs[0]? = some e → s.xs[t.p.toNat]? = some a → z ∈ pairsF a e (varyN L t.s t.p.toNat) → Comes L i j s t z
  | con (k : Nat) (a b : Int) : s.k = 3 → t.k = 3 → s.s = t.s → s.xs[k]? = some a → t.xs[k]? = some b → z ∈ pairsF a b (varyN L s.s k) → Comes L i j s t z
theorem step_comes {i j : Int} {s t : Tm} {n m : Nat} (hs : TOk L n s) (ht : TOk L m t) {z : PI} (h : z ∈ (stepT L i j s t).2) : Comes L i j s t z := by
  unfold stepT at h
  split at h
  · simp at h
  · split at h
    · rename_i _ h4
      obtain ⟨a, b, he⟩ : ∃ a b, s.xs = [a, b] := by
        cases hs with
        | leaf => omega
        | con => omega
        | two a b _ he => exact ⟨a, b, he⟩
        | proj => omega
      rw [he] at h
      simp only [List.mem_cons, List.not_mem_nil, or_false] at h
      rcases h with h | h
      · exact .union 0 a h4 (by rw [he]; rfl) h
      · exact .union 1 b h4 (by rw [he]; rfl) h
    · split at h
      · rename_i _ _ h5
        obtain ⟨a, b, he⟩ : ∃ a b, t.xs = [a, b] := by
          cases ht with
          | leaf => omega
          | con => omega
          | two a b _ he => exact ⟨a, b, he⟩
          | proj => omega
        rw [he] at h
        simp only [List.mem_cons, List.not_mem_nil, or_false] at h
        rcases h with h | h
        · exact .inter 0 a h5 (by rw [he]; rfl) h
        · exact .inter 1 b h5 (by rw [he]; rfl) h
      · split at h
        · simp at h
        · split at h
          · rename_i _ _ _ _ h6
            obtain ⟨e, he⟩ : ∃ e, t.xs = [e] := by
              cases ht with
              | leaf => omega
              | con => omega
              | two _ _ hh => omega
              | proj _ _ _ e _ _ _ _ he => exact ⟨e, he⟩
            unfold projF at h
            rw [he] at h
            split at h
            · rename_i h1
              rw [List.mem_append] at h
              refine .one e h6 h1 (by rw [he]; rfl) ?_
              rcases h with h | h
              · split at h
                · rename_i hv; simp at h; exact .inl ⟨hv, h⟩
                · simp at h
              · split at h
                · rename_i hv; simp at h; exact .inr ⟨hv, h⟩
                · simp at h
            · split at h
              · rename_i h3
                have hl : ∃ a, s.xs[t.p.toNat]? = some a := by
                  cases ht with
                  | leaf => omega
                  | con => omega
                  | two _ _ hh => omega
                  | proj j' m' hj' e' _ e1 e2 e3 _ _ =>
                    cases hs with
                    | leaf _ hh => omega
                    | con j'' hj'' _ g1 g2 =>
                      have : j' = j'' := by have := h3.2; omega
                      subst this
                      rw [e2, Int.toNat_natCast]
                      exact ⟨_, List.getElem?_eq_getElem (by omega)⟩
                    | two _ _ hh => omega
                    | proj => omega
                obtain ⟨a, ha⟩ := hl
                rw [ha] at h
                exact .proj e a h6 h3.1 h3.2 (by rw [he]; rfl) ha h
              · simp at h
          · split at h
            · rename_i h3
              obtain ⟨k, a, b, h1, h2, h4⟩ := conF_mem 0 _ _ z h
              rw [Nat.zero_add] at h4
              exact .con k a b h3.1 h3.2.1 h3.2.2 h1 h2 h4
            · split at h
              · simp at h
              · simp at h
end
end Go.Proofs.Ytjehccemilefgaa.St

namespace Go.Proofs.Ytjehccemilefgaa.St
open Go.RowKit Kit Rw
open Go.Proofs.Ytjehccemilefgaa.Sg (Sig)
open Go.Proofs.Ytjehccemilefgaa.Tm (Tm Store ofKey termAt isPl isPl_iff)
open Go.Proofs.Ytjehccemilefgaa.Ld (tmP parts_ahead)
open Go.Proofs.Ytjehccemilefgaa.Ex (turnB)
section
variable {L : List Sig} {ks : List (List Int)}
theorem part_place (hS : Store L ks) {i : Nat} (hi : i < ks.length) {k : Nat} {a : Int} (h : (tmP ks i).xs[k]? = some a) : isPl a ks.length = true := by
  have hp := (parts_ahead hS (List.getElem?_eq_getElem hi)).2.2
  rw [← tmP_is hi] at hp
  obtain ⟨p, q⟩ := hp a (List.mem_of_getElem? h)
  exact (isPl_iff _ _).2 (by omega)
theorem step_places (hS : Store L ks) {x y : Int} {z : PI} (h : z ∈ (stepF L ks x y).2) : isPl z.1 ks.length = true ∧ isPl z.2 ks.length = true := by
  by_cases hxy : isPl x ks.length = true ∧ isPl y ks.length = true
  · obtain ⟨x0, x1⟩ := (isPl_iff _ _).1 hxy.1
    obtain ⟨y0, y1⟩ := (isPl_iff _ _).1 hxy.2
    obtain ⟨i, rfl⟩ := Int.eq_ofNat_of_zero_le x0
    obtain ⟨j, rfl⟩ := Int.eq_ofNat_of_zero_le y0
    have hi : i < ks.length := by omega
    have hj : j < ks.length := by omega
    have h2 := hS.two
    rw [stepF_at hS hi hj] at h
    have p0 : isPl 0 ks.length = true := (isPl_iff _ _).2 (by omega)
    have p1 : isPl 1 ks.length = true := (isPl_iff _ _).2 (by omega)
    rcases step_comes (place_tok hS hi).1 (place_tok hS hj).1 h with ⟨k, a, _, ha, rfl⟩ | ⟨k, b, _, hb, rfl⟩ | ⟨e, _, _, he, hz⟩ | ⟨e, a, _, _, _, he, ha, hz⟩ | ⟨k, a, b, _, _, _, ha, hb, hz⟩
    · exact ⟨part_place hS hi ha, hxy.2⟩
    · exact ⟨hxy.1, part_place hS hj hb⟩
    · have pe := part_place hS hj he
      rcases hz with ⟨_, rfl⟩ | ⟨_, rfl⟩
      · exact ⟨p1, pe⟩
      · exact ⟨pe, p0⟩
    · have pe := part_place hS hj he
      have pa := part_place hS hi ha
      rcases pairsF_mem.1 hz with ⟨_, rfl⟩ | ⟨_, rfl⟩
      · exact ⟨pa, pe⟩
      · exact ⟨pe, pa⟩
    · have pb := part_place hS hj hb
      have pa := part_place hS hi ha
      rcases pairsF_mem.1 hz with ⟨_, rfl⟩ | ⟨_, rfl⟩
      · exact ⟨pa, pb⟩
      · exact ⟨pb, pa⟩
  · rw [stepF_no hxy] at h
    simp at h
theorem on_turn (hS : Store L ks) {a : Nat} (ha : a < ks.length) {s v : UInt8} (h : onF (turnB s v) (sdP L ks a) = true) (hs : s = 76 ∨ s = 82) :
    (v ≠ 45 → onF s (sdP L ks a) = true) ∧ (v ≠ 43 → onF (if s = 76 then 82 else 76) (sdP L ks a) = true) := by
  have hB : onF 66 (sdP L ks a) = true → ∀ u, onF u (sdP L ks a) = true := fun hb u => by
    have hb2 : (sdP L ks a).2.2 = true := hb
    obtain ⟨c, d⟩ := both_each hS a ha hb2
    exact on_all c d hb2
  by_cases h1 : v = 43
  · subst h1
    refine ⟨fun _ => ?_, fun hh => absurd rfl hh⟩
    have e : turnB s 43 = s := by unfold turnB; rw [if_pos rfl]
    rwa [e] at h
  · by_cases h2 : v = 45
    · subst h2
      refine ⟨fun hh => absurd rfl hh, fun _ => ?_⟩
      rcases hs with rfl | rfl
      · exact h
      · exact h
    · have e : turnB s v = 66 := by
        unfold turnB
        rw [if_neg h1, if_neg (fun hh => h2 hh.1), if_neg (fun hh => h2 hh.1)]
      rw [e] at h
      exact ⟨fun _ => hB h _, fun _ => hB h _⟩
theorem zero_sides (hS : Store L ks) (i : Nat) (hi : i < 2) (u : UInt8) : onF u (sdP L ks i) = true := by
  have h2 := hS.two
  have hil : i < ks.length := by omega
  have hf := Store.head hS hi
  have ht : tmP ks i = ⟨(i : Int), 0, 0, []⟩ := by unfold tmP; rw [hf]; rfl
  rw [sdP_eq hS hil, ht]
  have hk : ¬ (i : Int) = 5 ∧ ¬ (i : Int) = 6 ∧ ¬ (i : Int) = 4 := by omega
  unfold own3 may3 allS
  simp only [Bool.and_true]
  refine on_all ?_ ?_ ?_ <;> simp only [decide_eq_true_eq]
  · exact ⟨hk.1, hk.2.1⟩
  · exact hk.2.2
  · exact hk
/-- what comes of what may stand may stand -/
theorem step_sided (hS : Store L ks) {x y : Int} (hx : sidedF L ks x 76 = true) (hy : sidedF L ks y 82 = true) {z : PI} (h : z ∈ (stepF L ks x y).2) : sidedF L ks z.1 76 = true ∧ sidedF L ks z.2 82 = true := by
  obtain ⟨z1, z2⟩ := step_places hS h
  unfold sidedF at hx hy ⊢
  rw [Bool.and_eq_true] at hx hy
  rw [Bool.and_eq_true, Bool.and_eq_true]
  obtain ⟨px, ox⟩ := hx
  obtain ⟨py, oy⟩ := hy
  obtain ⟨x0, x1⟩ := (isPl_iff _ _).1 px
  obtain ⟨y0, y1⟩ := (isPl_iff _ _).1 py
  obtain ⟨i, rfl⟩ := Int.eq_ofNat_of_zero_le x0
  obtain ⟨j, rfl⟩ := Int.eq_ofNat_of_zero_le y0
  have hi : i < ks.length := by omega
  have hj : j < ks.length := by omega
  rw [Int.toNat_natCast] at ox oy
  rw [stepF_at hS hi hj] at h
  have place : ∀ {a : Int}, isPl a ks.length = true → a.toNat < ks.length := fun {a} ha => by
    obtain ⟨p, q⟩ := (isPl_iff _ _).1 ha
    omega
  have two : ∀ {a b : Int} {v : UInt8} {z : PI}, isPl a ks.length = true → isPl b ks.length = true → onF (turnB 76 v) (sdP L ks a.toNat) = true → onF (turnB 82 v) (sdP L ks b.toNat) = true → z ∈ pairsF a b v → onF 76 (sdP L ks z.1.toNat) = true ∧ onF 82 (sdP L ks z.2.toNat) = true := fun {a b v z} pa pb ha hb hz => by
    obtain ⟨a1, a2⟩ := on_turn hS (place pa) ha (.inl rfl)
    obtain ⟨b1, b2⟩ := on_turn hS (place pb) hb (.inr rfl)
    rcases pairsF_mem.1 hz with ⟨hv, rfl⟩ | ⟨hv, rfl⟩
    · exact ⟨a1 hv, b1 hv⟩
    · exact ⟨b2 hv, a2 hv⟩
  refine ⟨⟨z1, ?_⟩, z2, ?_⟩ <;>
  rcases step_comes (place_tok hS hi).1 (place_tok hS hj).1 h with ⟨k, a, hk, ha, rfl⟩ | ⟨k, b, hk, hb, rfl⟩ | ⟨e, hk, hk', he, hz⟩ | ⟨e, a, hk, hk', hs, he, ha, hz⟩ | ⟨k, a, b, hk, hk', hs, ha, hb, hz⟩
  · have := part_side hS hi (.inl rfl) ox ha
    unfold varyT at this
    rw [if_neg (by omega), if_neg (by omega)] at this
    exact this
  · exact ox
  · have h2 := part_side hS hj (.inr rfl) oy he
    unfold varyT at h2
    rw [if_neg (by omega), if_pos hk] at h2
    obtain ⟨b1, b2⟩ := on_turn hS (place (part_place hS hj he)) h2 (.inr rfl)
    rcases hz with ⟨hv, rfl⟩ | ⟨hv, rfl⟩
    · exact zero_sides hS 1 (by omega) 76
    · exact b2 hv
  · have h2 := part_side hS hj (.inr rfl) oy he
    have h1 := part_side hS hi (.inl rfl) ox ha
    unfold varyT at h1 h2
    rw [if_neg (by omega), if_pos hk] at h2
    rw [if_pos hk', hs] at h1
    exact (two (part_place hS hi ha) (part_place hS hj he) h1 h2 hz).1
  · have h2 := part_side hS hj (.inr rfl) oy hb
    have h1 := part_side hS hi (.inl rfl) ox ha
    unfold varyT at h1 h2
    rw [if_pos hk', ← hs] at h2
    rw [if_pos hk] at h1
    exact (two (part_place hS hi ha) (part_place hS hj hb) h1 h2 hz).1
  · exact oy
  · have := part_side hS hj (.inr rfl) oy hb
    unfold varyT at this
    rw [if_neg (by omega), if_neg (by omega)] at this
    exact this
  · have h2 := part_side hS hj (.inr rfl) oy he
    unfold varyT at h2
    rw [if_neg (by omega), if_pos hk] at h2
    obtain ⟨b1, b2⟩ := on_turn hS (place (part_place hS hj he)) h2 (.inr rfl)
    rcases hz with ⟨hv, rfl⟩ | ⟨hv, rfl⟩
    · exact b1 hv
    · exact zero_sides hS 0 (by omega) 82
  · have h2 := part_side hS hj (.inr rfl) oy he
    have h1 := part_side hS hi (.inl rfl) ox ha
    unfold varyT at h1 h2
    rw [if_neg (by omega), if_pos hk] at h2
    rw [if_pos hk', hs] at h1
    exact (two (part_place hS hi ha) (part_place hS hj he) h1 h2 hz).2
  · have h2 := part_side hS hj (.inr rfl) oy hb
    have h1 := part_side hS hi (.inl rfl) ox ha
    unfold varyT at h1 h2
    rw [if_pos hk', ← hs] at h2
    rw [if_pos hk] at h1
    exact (two (part_place hS hi ha) (part_place hS hj hb) h1 h2 hz).2

inductive Reach (L : List Sig) (ks : List (List Int)) (p : PI) : PI → Prop where
  | self : Reach L ks p p
  | step {q z : PI} : Reach L ks p q → z ∈ (stepF L ks q.1 q.2).2 → Reach L ks p z
theorem Reach.trans {p q z : PI} (h : Reach L ks p q) (k : Reach L ks q z) : Reach L ks p z := by
  induction k with
  | self => exact h
  | step _ hz ih => exact ih.step hz
theorem reach_top {p z : PI} (h : Reach L ks p z) : z = p ∨ ∃ q ∈ (stepF L ks p.1 p.2).2, Reach L ks q z := by
  induction h with
  | self => exact .inl rfl
  | @step q z hq hz ih =>
    rcases ih with rfl | ⟨u, hu, hr⟩
    · exact .inr ⟨z, hz, .self⟩
    · exact .inr ⟨u, hu, hr.step hz⟩
theorem reach_place (hS : Store L ks) {p z : PI} (h : Reach L ks p z) : z = p ∨ (isPl z.1 ks.length = true ∧ isPl z.2 ks.length = true) := by
  cases h with
  | self => exact .inl rfl
  | step _ hz => exact .inr (step_places hS hz)
/-- pairs in order -/
def ltP (a b : PI) : Prop := a.1 < b.1 ∨ (a.1 = b.1 ∧ a.2 < b.2)
instance (a b : PI) : Decidable (ltP a b) := by unfold ltP; infer_instance
theorem ltP_irrefl (a : PI) : ¬ ltP a a := by unfold ltP; omega
theorem ltP_trans {a b c : PI} (h : ltP a b) (k : ltP b c) : ltP a c := by unfold ltP at *; omega
theorem ltP_tri (a b : PI) : ltP a b ∨ a = b ∨ ltP b a := by
  unfold ltP
  rw [Prod.ext_iff]
  omega
/-- two rising rows with the same pairs are the same -/
theorem rise_same : ∀ {l m : List PI}, l.Pairwise ltP → m.Pairwise ltP → (∀ z, z ∈ l ↔ z ∈ m) → l = m
  | [], [], _, _, _ => rfl
  | [], b :: m, _, _, h => by have := (h b).2 (by simp); cases this
  | a :: l, [], _, _, h => by have := (h a).1 (by simp); cases this
  | a :: l, b :: m, hl, hm, h => by
    obtain ⟨l1, l2⟩ := List.pairwise_cons.1 hl
    obtain ⟨m1, m2⟩ := List.pairwise_cons.1 hm
    have hab : a = b := by
      rcases List.mem_cons.1 ((h a).1 (by simp)) with e | e
      · exact e
      · rcases List.mem_cons.1 ((h b).2 (by simp)) with e' | e'
        · exact e'.symm
        · exact absurd (ltP_trans (l1 b e') (m1 a e)) (ltP_irrefl _)
    subst hab
    rw [rise_same l2 m2]
    intro z
    constructor
    · intro hz
      rcases List.mem_cons.1 ((h z).1 (by simp [hz])) with e | e
      · subst e; exact absurd (l1 z hz) (ltP_irrefl _)
      · exact e
    · intro hz
      rcases List.mem_cons.1 ((h z).2 (by simp [hz])) with e | e
      · subst e; exact absurd (m1 z hz) (ltP_irrefl _)
      · exact e
def grid (n : Nat) : List PI := (List.range n).flatMap fun (i : Nat) => (List.range n).map fun (j : Nat) => (((i : Int), (j : Int)) : PI)
theorem grid_mem {n : Nat} {z : PI} : z ∈ grid n ↔ isPl z.1 n = true ∧ isPl z.2 n = true := by
  obtain ⟨a, b⟩ := z
  unfold grid
  simp only [List.mem_flatMap, List.mem_map, List.mem_range, isPl_iff, Prod.mk.injEq]
  constructor
  · rintro ⟨i, hi, j, hj, rfl, rfl⟩
    omega
  · rintro ⟨⟨a0, a1⟩, b0, b1⟩
    exact ⟨a.toNat, by omega, b.toNat, by omega, by omega, by omega⟩
theorem grid_rise (n : Nat) : (grid n).Pairwise ltP := by
  unfold grid
  rw [List.pairwise_flatMap]
  refine ⟨fun i _ => ?_, ?_⟩
  · rw [List.pairwise_map]
    exact List.Pairwise.imp (fun h => .inr ⟨rfl, by show (_ : Int) < _; omega⟩) List.pairwise_lt_range
  · refine List.Pairwise.imp ?_ List.pairwise_lt_range
    intro a b hab x hx y hy
    simp only [List.mem_map] at hx hy
    obtain ⟨_, _, rfl⟩ := hx
    obtain ⟨_, _, rfl⟩ := hy
    exact .inl (by show (_ : Int) < _; omega)
/-- the pairs of a kind to which one comes, rising -/
noncomputable def kindC (L : List Sig) (ks : List (List Int)) (kd : Int) (p : PI) : List PI :=
  (grid ks.length).filter fun z => @decide (Reach L ks p z ∧ (stepF L ks z.1 z.2).1 = kd) (Classical.propDecidable _)
theorem kindC_rise (kd : Int) (p : PI) : (kindC L ks kd p).Pairwise ltP := by
  unfold kindC
  exact (grid_rise _).filter _
theorem step_kind {z : PI} (h : (stepF L ks z.1 z.2).1 ≠ 0) : isPl z.1 ks.length = true ∧ isPl z.2 ks.length = true := by
  by_cases hxy : isPl z.1 ks.length = true ∧ isPl z.2 ks.length = true
  · exact hxy
  · rw [stepF_no hxy] at h; exact absurd rfl h
theorem kindC_mem {kd : Int} (hk : kd ≠ 0) {p z : PI} : z ∈ kindC L ks kd p ↔ Reach L ks p z ∧ (stepF L ks z.1 z.2).1 = kd := by
  unfold kindC
  rw [List.mem_filter, grid_mem]
  constructor
  · exact fun h => @of_decide_eq_true _ (Classical.propDecidable _) h.2
  · exact fun h => ⟨step_kind (by rw [h.2]; exact hk), @decide_eq_true _ (Classical.propDecidable _) h⟩
/-- a rising row with just those is it -/
theorem kindC_is {kd : Int} (hk : kd ≠ 0) {p : PI} {l : List PI} (hl : l.Pairwise ltP) (h : ∀ z, z ∈ l ↔ Reach L ks p z ∧ (stepF L ks z.1 z.2).1 = kd) : l = kindC L ks kd p :=
  rise_same hl (kindC_rise kd p) fun z => by rw [h, kindC_mem hk]
end
end Go.Proofs.Ytjehccemilefgaa.St
