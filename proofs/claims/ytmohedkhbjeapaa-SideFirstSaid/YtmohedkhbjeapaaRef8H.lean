/-
  Contracts of the document's At, Vars, Texts: rows of names.
-/
import Derived.Test.YtmohedkhbjeapaaRef8G
namespace Go.Proofs.Ytmohedkhbjeapaa.Ex
open Go.RowKit Kit Rw
open Go.Proofs.Ytmohedkhbjeapaa.Sg (Sig findI Row refFind_any)

def atS (s : ByteArray) : List ByteArray → Nat → Int
  | [], _ => -1
  | a :: r, k => if Sg.eqS a s = true then (k : Int) else atS s r (k + 1)
theorem atS_at (s : ByteArray) (l : List ByteArray) (k : Nat) (h : k < l.length) : atS s (l.drop k) k = if Sg.eqS l[k] s = true then (k : Int) else atS s (l.drop (k + 1)) (k + 1) := by
  rw [List.drop_eq_getElem_cons h]; rfl
theorem atS_end (s : ByteArray) (l : List ByteArray) (k : Nat) (h : l.length ≤ k) : atS s (l.drop k) k = -1 := by
  rw [List.drop_eq_nil_of_le h]; rfl
theorem atS_neg (s : ByteArray) : ∀ (l : List ByteArray) (k : Nat), atS s l k < 0 ↔ s ∉ l
  | [], k => by simp [atS]
  | a :: r, k => by
    unfold atS
    by_cases h : a = s
    · rw [if_pos ((Sg.eqS_iff _ _).2 h)]
      subst h
      simp
    · rw [if_neg fun e => h ((Sg.eqS_iff _ _).1 e), atS_neg s r (k + 1)]
      simp only [List.mem_cons, not_or]
      exact ⟨fun e => ⟨fun x => h x.symm, e⟩, fun e => e.2⟩
set_option maxRecDepth 100000 in
set_option maxHeartbeats 1000000 in
theorem at_any (A : Option Addr) (n c : Nat) (l : List ByteArray) (s : ByteArray) (w : World) (hn : n = l.length) (hr : Rds w w.heap.size A (cellsS l)) (hl : l.length ≤ 1000000) :
    Calls Try.prog 34 #[.slice A n c, .string s] w fun e w' => e = .returned (.int .i64 (atS s l 0)) ∧ w = w' := by
  subst hn
  go_enter Try.func34, Try.ntmps34
  go_wp2_with fail
  go_loop [5] (fun i => ∃ k : Nat, k ≤ l.length ∧ i = .int .i64 k ∧ Hid (atS s l 0 = atS s (l.drop k) k)) (fun i => l.length - (intOf i).toNat)
  case atStart => exact ⟨0, Nat.zero_le _, rfl, Lib.hid (by simp)⟩
  case round =>
    obtain ⟨k, hk, rfl, HF⟩ := hrel
    by_cases hlt : k < l.length
    · obtain ⟨ad, rfl, hb, c0⟩ := str_at hr hlt
      have HS := Lib.hid (atS_at s l k hlt)
      clear hr
      cases he : Sg.eqS l[k] s
      · have HS' : Hid (atS s (l.drop k) k = atS s (l.drop (k + 1)) (k + 1)) := by have := HS.out; rw [he] at this; exact this
        have he' : (l[k].toList == s.toList) = false := he
        clear he
        go_wp2_with fail
        go_round
        case rel => exact ⟨k + 1, by omega, by go_num, Lib.hid (HF.out.trans HS'.out)⟩
        case measure => simp [intOf]; omega
      · have HS' : Hid (atS s (l.drop k) k = k) := by have := HS.out; rw [he] at this; exact this
        have he' : (l[k].toList == s.toList) = true := he
        clear he
        go_wp2_with fail
        go_ret
        exact ⟨by rw [HF.out, HS'.out]; rfl, rfl⟩
    · have HS := Lib.hid (atS_end s l k (by omega))
      go_wp2_with fail
      go_ret
      exact ⟨by rw [HF.out, HS.out]; rfl, rfl⟩

/-- the names of variables, each once -/
def varsF : List Tg → List ByteArray → List ByteArray
  | [], o => o
  | n :: r, o => varsF r (if n.1 = 2 ∧ atS n.2.1 o 0 < 0 then o ++ [n.2.1] else o)
theorem varsF_at (l : List Tg) (o : List ByteArray) (k : Nat) (h : k < l.length) : varsF (l.drop k) o = varsF (l.drop (k + 1)) (if l[k].1 = 2 ∧ atS l[k].2.1 o 0 < 0 then o ++ [l[k].2.1] else o) := by
  rw [List.drop_eq_getElem_cons h]; rfl
theorem varsF_end (l : List Tg) (o : List ByteArray) (k : Nat) (h : l.length ≤ k) : varsF (l.drop k) o = o := by
  rw [List.drop_of_length_le h]; rfl
theorem varsF_len : ∀ (l : List Tg) (o : List ByteArray), (varsF l o).length ≤ o.length + l.length
  | [], o => Nat.le_refl _
  | n :: r, o => by
    unfold varsF
    refine Nat.le_trans (varsF_len r _) ?_
    split <;> simp <;> omega
theorem varsF_mono : ∀ (l : List Tg) (o : List ByteArray), o.length ≤ (varsF l o).length
  | [], o => Nat.le_refl _
  | n :: r, o => by
    unfold varsF
    refine Nat.le_trans ?_ (varsF_mono r _)
    split <;> simp
set_option maxRecDepth 100000 in
set_option maxHeartbeats 4000000 in
theorem refVars_any (A : Option Addr) (n c : Nat) (l : List Tg) (w : World) (hn : n = l.length) (hr : Rds w w.heap.size A (cellsG l)) (hl : l.length ≤ 1000) :
    Calls Try.prog 18 #[.slice A n c] w fun e w' => ∃ v, e = .returned v ∧ w'.ownsRow w.heap.size 9 1 v (varsF l []).length (cellsS (varsF l [])) ∧ Q w w' := by
  subst hn
  obtain ⟨i0, hi, hz0, hz1, hz2⟩ := info_parts strInfo
  have Hi := Lib.hid hi
  have Hz0 := Lib.hid hz0
  have Hz1 := Lib.hid hz1
  have Hz2 := Lib.hid hz2
  clear hi hz0 hz1 hz2
  have HR := Lib.hid hr
  clear hr
  go_enter Try.func18, Try.ntmps18
  go_wp2_with fail
  go_loopw [3, 4] (fun v i wr => ∃ (k : Nat) (o : List ByteArray), k ≤ l.length ∧ o.length ≤ k ∧ i = .int .i64 k ∧ Hid (varsF l [] = varsF (l.drop k) o) ∧ Hid (wr.ownsRow w.heap.size 9 1 v o.length (cellsS o)) ∧ Hid (Q w wr)) (fun _ i _ => l.length - (intOf i).toNat)
  case atStart => exact ⟨0, [], Nat.zero_le _, Nat.le_refl _, rfl, Lib.hid (by simp), Lib.hid (own_nil w _ _ _), Lib.hid (Q.refl w)⟩
  case round =>
    obtain ⟨k, o, hk, hok, rfl, HV, HO, HQ⟩ := hrel
    by_cases hlt : k < l.length
    · obtain ⟨ad, rfl, hb, c0, c1, c2⟩ := tok_at (HR.out.q HQ.out) hlt
      obtain ⟨A2, c2', hve, _, hro⟩ := own_read HO.out
      subst hve
      have HSt := Lib.hid (varsF_at l o k hlt)
      have CA := Lib.hid (at_any A2 o.length c2' o l[k].2.1 wr rfl hro (by omega))
      clear hro c2
      generalize l[k].1 = kd at *
      generalize l[k].2.1 = nm at *
      generalize hat : atS nm o 0 = at_ at *
      by_cases h2 : kd = 2
      · have e2 : (kd == 2) = true := beq_iff_eq.2 h2
        by_cases hn : at_ < 0
        · have d0 : decide (at_ < 0) = true := decide_eq_true hn
          have HS2 : Hid (varsF l [] = varsF (l.drop (k + 1)) (o ++ [nm])) := by
            have := HSt.out
            rw [if_pos ⟨h2, hn⟩] at this
            exact Lib.hid (HV.out.trans this)
          have qE := (Q.refl wr).alloc (Obj.cells #[.string nm] 9)
          have HQE := Lib.hid (HQ.out.trans qE)
          have HOE := Lib.hid (row_kept HO.out qE (Nat.le_refl _))
          have HSE : Hid (Src (wr.alloc (Obj.cells #[.string nm] 9)) (some ⟨wr.heap.size, 0, none⟩) [.string nm]) := src_alloc wr [.string nm] 9 (0, 0)
          clear h2 hn hat HSt qE
          go_wp2_with (first
            | (go_at_call 34; refine CA.out.mono ?_; rintro e w1 ⟨rfl, rfl⟩)
            | (at_builtin; refine wpList_append_src _ rfl (.tmp 29) (.tmp 35) _ rfl w.heap.size 9 i0 _ 1 16 Try.underlying34 Hi.out Hz0.out Hz1.out Hz2.out rfl (by omega) (.slice A2 o.length c2') o.length (cellsS o) rfl HOE.out (some ⟨wr.heap.size, 0, none⟩) 1 1 [.string nm] rfl rfl HSE.out (by simp [Value.oneCell']) (by unfold maxLen; omega) (by omega) HQE.out.size ?_; intro v' w' own' gr' _))
          have HO5 : Hid (w'.ownsRow w.heap.size 9 1 v' (o ++ [nm]).length (cellsS (o ++ [nm]))) := by
            unfold Hid
            rw [List.length_append, cellsS_append]
            exact own'
          have HQ5 : Hid (Q w w') := Below.grown HQE.out gr' HQE.out.size (fun i e => (HOE.out.lt i e).1)
          clear own' gr'
          go_roundw
          case rel => exact ⟨k + 1, o ++ [nm], by omega, by simp; omega, by go_num, HS2, HO5, HQ5⟩
          case measure => simp [intOf]; omega
        · have d0 : decide (at_ < 0) = false := decide_eq_false hn
          have HS2 : Hid (varsF l [] = varsF (l.drop (k + 1)) o) := by
            have := HSt.out
            rw [if_neg fun h => hn h.2] at this
            exact Lib.hid (HV.out.trans this)
          clear h2 hn hat HSt
          go_wp2_with (go_at_call 34; refine CA.out.mono ?_; rintro e w1 ⟨rfl, rfl⟩)
          go_roundw
          case rel => exact ⟨k + 1, o, by omega, by omega, by go_num, HS2, HO, HQ⟩
          case measure => simp [intOf]; omega
      · have e2 : (kd == 2) = false := beq_eq_false_iff_ne.2 h2
        have HS2 : Hid (varsF l [] = varsF (l.drop (k + 1)) o) := by
          have := HSt.out
          rw [if_neg fun h => h2 h.1] at this
          exact Lib.hid (HV.out.trans this)
        clear h2 hat HSt
        go_wp2_with (go_at_call 34; refine CA.out.mono ?_; rintro e w1 ⟨rfl, rfl⟩)
        go_roundw
        case rel => exact ⟨k + 1, o, by omega, by omega, by go_num, HS2, HO, HQ⟩
        case measure => simp [intOf]; omega
    · have HE : Hid (varsF l [] = o) := by
        have := HV.out
        rw [varsF_end l o k (by omega)] at this
        exact Lib.hid this
      go_wp2_with fail
      go_ret
      exact ⟨_, rfl, by rw [HE.out]; exact HO.out, HQ.out⟩
end Go.Proofs.Ytmohedkhbjeapaa.Ex
