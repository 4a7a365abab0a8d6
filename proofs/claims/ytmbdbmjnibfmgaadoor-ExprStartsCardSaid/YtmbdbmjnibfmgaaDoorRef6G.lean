/-
  Contract of the document's Toks.
-/
import Derived.Test.YtmbdbmjnibfmgaaDoorRef6F
namespace Go.Proofs.YtmbdbmjnibfmgaaDoor.Lx
open Go.RowKit Kit Rw

/-- what the document's Toks answers -/
def RToksPost (l : List Tk) (w : World) : Option Nat → Ending → World → Prop
  | some q, e, w' => e = .returned (.tuple #[.slice none 0 0, .int .i64 (q : Int), .int .i64 2]) ∧ Q w w'
  | none, e, w' => ∃ A c, e = .returned (.tuple #[.slice A l.length c, .int .i64 0, .int .i64 0]) ∧ l.length ≤ c ∧ Rds w' w'.heap.size A (cellsT l) ∧ Q w w'
theorem refToks_full (s : ByteArray) (w : World) (h : 2000 < s.size) :
    Calls Tryd.prog 10 #[.string s] w fun e w' => e = .returned (.tuple #[.slice none 0 0, .int .i64 0, .int .i64 7]) ∧ Q w w' := by
  have d : decide (2000 < (s.size : Int)) = true := decide_eq_true (by omega)
  go_enter Tryd.func10, Tryd.ntmps10
  go_wp2_with fail
  go_ret3
  exact ⟨rfl, Q.refl _⟩
set_option maxRecDepth 100000 in
set_option maxHeartbeats 4000000 in
theorem refToks_any (s : ByteArray) (l : List Tk) (o : Option Nat) (w : World) (hs : s.size ≤ 2000) (hl : lx s.data.toList 0 = (l, o)) :
    Calls Tryd.prog 10 #[.string s] w (RToksPost l w o) := by
  obtain ⟨i0, hi, hz0, hz1, hz2⟩ := info_parts tokInfo
  have Hi := Lib.hid hi
  have Hz0 := Lib.hid hz0
  have Hz1 := Lib.hid hz1
  have Hz2 := Lib.hid hz2
  clear hi hz0 hz1 hz2
  have HM0 : Hid (Mid s l o 0 []) := ⟨⟨l, hl, rfl⟩, Nat.le_refl _⟩
  clear hl
  have d0 : decide (2000 < (s.size : Int)) = false := decide_eq_false (by omega)
  go_enter Tryd.func10, Tryd.ntmps10
  go_wp2_with fail
  go_loopw [5, 6] (fun out i wr => ∃ (k : Nat) (n : List Tk) (v : Value), k ≤ s.size ∧ i = .int .i64 k ∧ v = out ∧ Hid (Mid s l o k n) ∧ Hid (wr.ownsRow w.heap.size 45 3 v n.length (cellsT n)) ∧ Hid (Q w wr)) (fun _ i _ => s.size - (intOf i).toNat)
  case atStart => exact ⟨0, [], _, Nat.zero_le _, rfl, rfl, HM0, Lib.hid (own_nil w _ _ _), Lib.hid (Q.refl w)⟩
  case round =>
    obtain ⟨k, n, v, hk, rfl, rfl, HM, HO, HQ⟩ := hrel
    by_cases hlt : k < s.size
    · have BW := blank_ways s[k]
      cases hb : blank s[k]
      · rw [hb] at BW
        have e1 : ((s[k].toNat : Int) == 32) = false := beq_eq_false_iff_ne.2 fun h => by have := BW.2 (.inl h); cases this
        have e2 : ((s[k].toNat : Int) == 9) = false := beq_eq_false_iff_ne.2 fun h => by have := BW.2 (.inr (.inl h)); cases this
        have e3 : ((s[k].toNat : Int) == 10) = false := beq_eq_false_iff_ne.2 fun h => by have := BW.2 (.inr (.inr h)); cases this
        clear BW
        have CT := Lib.hid (token_any s k wr hlt (by omega))
        cases ht : tk s[k] (from_ s (k + 1)) with
        | none =>
          rw [ht] at CT
          have HE : Hid (o = some k) := by
            obtain ⟨⟨m, e1, e2⟩, e3⟩ := HM.out
            rw [step_tk_no s k hlt ht hb] at e1
            injection e1 with _ e1
            exact e1.symm
          have CT2 : Hid (Calls Tryd.prog 19 #[.string s, .int .i64 (k : Int)] wr fun e w' => e = .returned (.tuple #[.int .i64 0, .int .i64 (k : Int)]) ∧ wr = w') := CT.out
          clear ht hb CT
          go_wp2_with (go_at_call 19; refine CT2.out.mono ?_; rintro e w1 ⟨rfl, rfl⟩)
          go_ret3
          rw [HE.out]
          exact ⟨rfl, HQ.out⟩
        | some kg =>
          obtain ⟨K, g⟩ := kg
          rw [ht] at CT
          obtain ⟨hs1, hle⟩ := step_tk s k hlt K g ht hb
          have hK := tk_kind ht
          have HM' : Hid (Mid s l o (k + g + 1) (n ++ [⟨K, (s.extract k (k + g + 1)).data.toList, k⟩])) := by
            obtain ⟨⟨m, e1, e2⟩, e3⟩ := HM.out
            rw [hs1] at e1
            injection e1 with e1 e5
            exact ⟨⟨(lx (from_ s (k + g + 1)) (k + g + 1)).1, by rw [← e5], by rw [e2, ← e1]; simp⟩, by simp; omega⟩
          have hfew := HM.out.few
          have hd : ((K : Int) == 0) = false := beq_eq_false_iff_ne.2 (by omega)
          have HC := cut_ref s k (k + g + 1) (by omega) hle
          obtain ⟨b, hbe⟩ : ∃ b, b = k + g + 1 := ⟨_, rfl⟩
          rw [← hbe] at HM' HC hle
          have CT2 : Hid (Calls Tryd.prog 19 #[.string s, .int .i64 (k : Int)] wr fun e w' => e = .returned (.tuple #[.int .i64 (K : Int), .int .i64 (b : Int)]) ∧ wr = w') := by
            rw [hbe]; exact CT.out
          have hkb : k < b := by omega
          clear ht hb hs1 CT hbe
          have HbE : Hid (∀ W : World, Src (W.alloc (Obj.cells #[.int .i64 (K : Int), .string (s.extract k b), .int .i64 (k : Int)] 45)) (some ⟨W.heap.size, 0, none⟩) [.int .i64 (K : Int), .string (s.extract k b), .int .i64 (k : Int)]) := fun W => src_alloc W _ _ _
          go_wp2_with (first
            | (go_at_call 19; refine CT2.out.mono ?_; rintro e w1 ⟨rfl, rfl⟩)
            | (at_builtin; refine wpList_append_src _ rfl (.tmp 43) (.tmp 51) _ rfl w.heap.size 45 i0 _ 3 32 Tryd.underlying25 Hi.out Hz0.out Hz1.out Hz2.out rfl (by omega) v n.length (cellsT n) rfl (row_kept HO.out ((Q.refl wr).alloc _) (Nat.le_refl _)) (some ⟨wr.heap.size, 0, none⟩) 1 1 [.int .i64 (K : Int), .string (s.extract k b), .int .i64 (k : Int)] rfl rfl (HbE.out wr) (by simp [Value.oneCell']) (by unfold maxLen; omega) (by omega) ((HQ.out.alloc _).size) ?_; intro v' w' own' gr' _; have Own := Lib.hid own'; have HQ' : Hid (Q w w') := Below.grown (HQ.out.alloc _) gr' ((HQ.out.alloc _).size) (fun i e => (HO.out.lt i e).1); clear own' gr'))
          go_roundw
          case rel => exact ⟨b, _, v', by omega, by go_num, rfl, HM', by rw [cellsT_append, List.length_append, cellsT_single, bs_back]; exact Own, HQ'⟩
          case measure => simp [intOf]; omega
      · have HM' : Hid (Mid s l o (k + 1) n) := by
          obtain ⟨⟨m, e1, e2⟩, e3⟩ := HM.out
          exact ⟨⟨m, by rw [← step_blank s k hlt hb]; exact e1, e2⟩, by omega⟩
        have ways := BW.1 hb
        clear BW hb
        by_cases x1 : (s[k].toNat : Int) = 32
        · have e1 : ((s[k].toNat : Int) == 32) = true := beq_iff_eq.2 x1
          clear x1 ways
          go_wp2_with fail
          go_roundw
          case rel => exact ⟨k + 1, n, v, by omega, by go_num, rfl, HM', HO, HQ⟩
          case measure => simp [intOf]; omega
        · have e1 : ((s[k].toNat : Int) == 32) = false := beq_eq_false_iff_ne.2 x1
          by_cases x2 : (s[k].toNat : Int) = 9
          · have e2 : ((s[k].toNat : Int) == 9) = true := beq_iff_eq.2 x2
            clear x1 x2 ways
            go_wp2_with fail
            go_roundw
            case rel => exact ⟨k + 1, n, v, by omega, by go_num, rfl, HM', HO, HQ⟩
            case measure => simp [intOf]; omega
          · have e2 : ((s[k].toNat : Int) == 9) = false := beq_eq_false_iff_ne.2 x2
            have e3 : ((s[k].toNat : Int) == 10) = true := beq_iff_eq.2 (by omega)
            clear x1 x2 ways
            go_wp2_with fail
            go_roundw
            case rel => exact ⟨k + 1, n, v, by omega, by go_num, rfl, HM', HO, HQ⟩
            case measure => simp [intOf]; omega
    · have HE : Hid (o = none ∧ l = n) := by
        obtain ⟨⟨m, e1, e2⟩, e3⟩ := HM.out
        rw [from_end s k (by omega), lx_nil] at e1
        injection e1 with e1 e4
        subst e1
        exact ⟨e4.symm, by simpa using e2⟩
      obtain ⟨A, c, rfl, hc, hR⟩ := own_read HO.out
      have HRd := Lib.hid hR
      clear hR
      go_wp2_with fail
      go_ret3
      rw [HE.out.1, HE.out.2]
      exact ⟨A, c, rfl, hc, HRd.out, HQ.out⟩
end Go.Proofs.YtmbdbmjnibfmgaaDoor.Lx
