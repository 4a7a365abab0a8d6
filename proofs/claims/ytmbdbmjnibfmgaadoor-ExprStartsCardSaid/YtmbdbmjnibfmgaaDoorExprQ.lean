/-
  Contract of Read.
-/
import Derived.Test.YtmbdbmjnibfmgaaDoorExprP
namespace Go.Proofs.YtmbdbmjnibfmgaaDoor.Ex
open Go.RowKit Kit Rw
open Go.Proofs.YtmbdbmjnibfmgaaDoor.Nm

theorem make_level (u : World) : (Instr.makeSlice 59 (.int .i64 1) (.int .i64 1)).run Tryd.prog u = .ok (.slice (some ⟨u.heap.size, 0, none⟩) 1 1) (u.alloc (.cells #[.int .i64 0, .string ⟨#[]⟩, .int .i64 0, .string ⟨#[]⟩] 80)) := by
  obtain ⟨i0, hi, hz0, hz1, hz2⟩ := info_parts levelInfo
  have h := run_make (P := Tryd.prog) u 59 80 i0 _ Tryd.underlying59 hi hz0 .i64 .i64 1 1 (by omega) (by omega) (by rw [hz2]; omega) (by omega)
  rw [hz1] at h
  rw [h]
  have e : madeCells (Value.agg #[.int .i64 0, .string ⟨#[]⟩, .int .i64 0, .string ⟨#[]⟩]).cells (Int.toNat 1 * 4) = #[.int .i64 0, .string ⟨#[]⟩, .int .i64 0, .string ⟨#[]⟩] := by kernel_rfl
  rw [e]
  rfl
def placeOf (w : World) (B : Nat) : Nat := match w.cell? ⟨B, 1, none⟩ with
  | some (.int _ n) => n.toNat
  | _ => 0
/-- what Read answers -/
def ReadPost (w : World) (er : Int) (p : Nat) (ns : List Tg) (e : Ending) (w' : World) : Prop :=
  ∃ A n c, e = .returned (.tuple #[.slice A n c, .int .i64 (p : Int), .int .i64 er]) ∧ n = ns.length ∧ Rds w' w'.heap.size A (cellsG ns) ∧ Q w w'
set_option maxRecDepth 100000 in
set_option maxHeartbeats 8000000 in
theorem read_any (A : Option Addr) (n c : Nat) (toks : List Tg) (w : World) (er : Int) (p' : Nat) (ns' : List Tg) (hn : n = toks.length) (hr : Rds w w.heap.size A (cellsG toks)) (hl : toks.length ≤ 10000) (hR : RunP toks 0 [] [((0, ⟨#[]⟩, 0), ⟨#[]⟩)] er p' ns') :
    Calls Tryd.prog 12 #[.slice A n c, .int .i64 0] w (ReadPost w er p' ns') := by
  subst hn
  have hmk := make_level w
  have HR := Lib.hid hR
  have d0 : decide ((toks.length : Int) < 0) = false := decide_eq_false (by omega)
  have H0 : Hid (RS w ((w.alloc (.cells #[.int .i64 0, .string ⟨#[]⟩, .int .i64 0, .string ⟨#[]⟩] 80)).alloc (.cells #[.slice A toks.length c, .int .i64 0, .slice none 0 0, .slice (some ⟨w.heap.size, 0, none⟩) 1 1] 61)) (w.heap.size + 1) A c toks 0 [] [((0, ⟨#[]⟩, 0), ⟨#[]⟩)] (.slice none 0 0) (.slice (some ⟨w.heap.size, 0, none⟩) 1 1)) := by
    have q1 := (Q.refl w).alloc (.cells #[.int .i64 0, .string ⟨#[]⟩, .int .i64 0, .string ⟨#[]⟩] 80)
    have q2 := q1.alloc (.cells #[.slice A toks.length c, .int .i64 0, .slice none 0 0, .slice (some ⟨w.heap.size, 0, none⟩) 1 1] 61)
    have e : (w.alloc (.cells #[.int .i64 0, .string ⟨#[]⟩, .int .i64 0, .string ⟨#[]⟩] 80)).heap.size = w.heap.size + 1 := by simp
    have hb := own_new (w.alloc (.cells #[.int .i64 0, .string ⟨#[]⟩, .int .i64 0, .string ⟨#[]⟩] 80)) [.slice A toks.length c, .int .i64 0, .slice none 0 0, .slice (some ⟨w.heap.size, 0, none⟩) 1 1] 61
    rw [e] at hb
    refine ⟨q2, hr.keep q2, Nat.le_succ _, hb, own_nil _ _ _ _, ?_, by simp [Value.ownBlock], ?_, by simp [Value.ownBlock]⟩
    · refine World.ownsRow.alloc ⟨rfl, .inr ⟨w.heap.size, 1, #[.int .i64 0, .string ⟨#[]⟩, .int .i64 0, .string ⟨#[]⟩], rfl, Nat.le_refl _, heap_alloc_new w _, Nat.le_refl _, by unfold maxLen; omega, rfl, rfl⟩⟩ _
    · intro e
      injection e with e
      exact absurd e (by show w.heap.size ≠ w.heap.size + 1; omega)
  clear hr hR
  go_enter Tryd.func12, Tryd.ntmps12
  go_wp2_with fail
  generalize (w.alloc (.cells #[.int .i64 0, .string ⟨#[]⟩, .int .i64 0, .string ⟨#[]⟩] 80)).alloc (.cells #[.slice A toks.length c, .int .i64 0, .slice none 0 0, .slice (some ⟨w.heap.size, 0, none⟩) 1 1] 61) = W1 at *
  generalize w.heap.size + 1 = B at *
  clear hmk
  go_loopw [8, 10] (fun more er0 wr => ∃ (q : Nat) (ms : List Tg) (rs : List Lv) (v u : Value) (m : Bool), more = .bool m ∧ Hid (RS w wr B A c toks q ms rs v u) ∧ q ≤ toks.length ∧ ms.length ≤ 3 * q ∧ 0 < rs.length ∧ rs.length ≤ 41 ∧ Hid (m = true → RunP toks q ms rs er p' ns') ∧ Hid (m = false → er = 0 ∧ q = p' ∧ ms = ns')) (fun _ _ wr => toks.length - placeOf wr B)
  case atStart => exact ⟨0, [], _, _, _, true, rfl, H0, Nat.zero_le _, Nat.zero_le _, Nat.le_refl _, by simp, Lib.hid (fun _ => HR.out), Lib.hid (fun h => by cases h)⟩
  case round =>
    clear H0 HR
    obtain ⟨q, ms, rs, v, u, m, rfl, H, hq, hms, hrs, hr41, HR, HE⟩ := hrel
    cases m
    · obtain ⟨rfl, rfl, rfl⟩ := HE.out rfl
      obtain ⟨y0, y1, y2, y3⟩ := H.out.cells
      go_wp2_with fail
      go_quiet (fail)
      go_wp2_with fail
      obtain ⟨A', c', rfl, hc, hRd⟩ := own_read H.out.nod
      go_ret3
      exact ⟨A', _, c', rfl, rfl, (hRd.q ((Q.refl wr).drewN nq)), H.out.q.drewN nq⟩
    · have hrun := HR.out rfl
      have hplace : placeOf wr B = q := by
        unfold placeOf
        rw [H.out.cells.2.1]
        simp
      have CP := Lib.hid (fun (b : Bool) (er : Int) (p1 : Nat) (ns1 : List Tg) (ss1 : List Lv) (hP : PartS toks q ms rs b er p1 ns1 ss1) => part_any w wr B A c toks q ms rs v u b er p1 ns1 ss1 H.out hP hrs (by omega) (by omega))
      cases hrun with
      | @err _ _ _ _ p1 ns1 ss1 h he =>
        have CP1 := Lib.hid (CP.out _ _ _ _ _ h)
        have de : (er == 0) = false := beq_eq_false_iff_ne.2 he
        have dn : (er != 0) = true := bne_iff_ne.2 he
        clear CP
        go_wp2_with (go_at_call 24; refine CP1.out.mono ?_; rintro e w2 ⟨rfl, v2, u2, hX⟩; have HX := Lib.hid hX; obtain ⟨y0, y1, y2, y3⟩ := hX.cells; clear hX)
        go_quiet (fail)
        go_wp2_with fail
        go_ret3
        exact ⟨none, 0, 0, rfl, rfl, Rds.nil _ _ _, HX.out.q.drewN nq⟩
      | @opened _ _ _ p1 ns1 ss1 _ _ _ h hr =>
        have CP1 := Lib.hid (CP.out _ _ _ _ _ h)
        obtain ⟨o1, o2⟩ := h.on
        obtain ⟨g1, g2, g3, g4⟩ := h.grow
        have hms1 : ns1.length ≤ 3 * p1 := by
          have : ns1.length ≤ ms.length + 1 := by cases h <;> simp
          omega
        clear CP h
        go_wp2_with (go_at_call 24; refine CP1.out.mono ?_; rintro e w2 ⟨rfl, v2, u2, hX⟩; have HX := Lib.hid hX; clear hX)
        go_roundw
        case rel => exact ⟨p1, ns1, ss1, v2, u2, true, rfl, HX, o2, hms1, by omega, g4 (by omega), Lib.hid (fun _ => hr), Lib.hid (fun h => by cases h)⟩
        case measure =>
          have : placeOf w2 B = p1 := by unfold placeOf; rw [HX.out.cells.2.1]; simp
          rw [hplace, this]; omega
      | @more _ _ _ p1 ns1 ss1 p2 ns2 ss2 _ _ _ h hg hr =>
        have CP1 := Lib.hid (CP.out _ _ _ _ _ h)
        obtain ⟨o1, o2⟩ := h.on
        obtain ⟨g1, g2, g3, g4⟩ := h.grow
        have hms1 : ns1.length ≤ ms.length + 1 := by cases h <;> simp
        obtain ⟨q1, q2, q3, q4, q5⟩ := hg.places o2
        have hms2 : ns2.length ≤ 3 * p2 := by omega
        have hr2 : ss2.length ≤ 41 := Nat.le_trans q4 (g4 hr41)
        have CG := Lib.hid (fun (W : World) (v u : Value) (h : RS w W B A c toks p1 ns1 ss1 v u) => goOn_any w W B A c toks p1 ns1 ss1 v u true p2 ns2 ss2 h hg (by omega) (by omega) (Nat.le_trans (g4 hr41) (by omega)))
        clear CP h
        go_wp2_with (first
          | (go_at_call 24; refine CP1.out.mono ?_; rintro e w2 ⟨rfl, v2, u2, hX⟩; have HX := Lib.hid hX; clear hX)
          | (go_at_call 25; refine (CG.out _ _ _ HX.out).mono ?_; rintro e w3 ⟨rfl, v3, u3, hY⟩; have HY := Lib.hid hY; clear hY))
        go_roundw
        case rel => exact ⟨p2, ns2, ss2, v3, u3, true, rfl, HY, q2, hms2, q3, hr2, Lib.hid (fun _ => hr), Lib.hid (fun h => by cases h)⟩
        case measure =>
          have : placeOf w3 B = p2 := by unfold placeOf; rw [HY.out.cells.2.1]; simp
          rw [hplace, this]; omega
      | @done _ _ _ p1 ns1 ss1 _ _ ss2 h hg =>
        have CP1 := Lib.hid (CP.out _ _ _ _ _ h)
        obtain ⟨o1, o2⟩ := h.on
        obtain ⟨g1, g2, g3, g4⟩ := h.grow
        have hms1 : ns1.length ≤ ms.length + 1 := by cases h <;> simp
        obtain ⟨q1, q2, q3, q4, q5⟩ := hg.places o2
        have hms2 : ns'.length ≤ 3 * p' := by omega
        have hr2 : ss2.length ≤ 41 := Nat.le_trans q4 (g4 hr41)
        have CG := Lib.hid (fun (W : World) (v u : Value) (h : RS w W B A c toks p1 ns1 ss1 v u) => goOn_any w W B A c toks p1 ns1 ss1 v u false p' ns' ss2 h hg (by omega) (by omega) (Nat.le_trans (g4 hr41) (by omega)))
        clear CP h
        go_wp2_with (first
          | (go_at_call 24; refine CP1.out.mono ?_; rintro e w2 ⟨rfl, v2, u2, hX⟩; have HX := Lib.hid hX; clear hX)
          | (go_at_call 25; refine (CG.out _ _ _ HX.out).mono ?_; rintro e w3 ⟨rfl, v3, u3, hY⟩; have HY := Lib.hid hY; clear hY))
        go_roundw
        case rel => exact ⟨p', ns', ss2, v3, u3, false, rfl, HY, q2, hms2, q3, hr2, Lib.hid (fun h => by cases h), Lib.hid (fun _ => ⟨by trivial, rfl, rfl⟩)⟩
        case measure =>
          have : placeOf w3 B = p' := by unfold placeOf; rw [HY.out.cells.2.1]; simp
          rw [hplace, this]; omega
end Go.Proofs.YtmbdbmjnibfmgaaDoor.Ex
