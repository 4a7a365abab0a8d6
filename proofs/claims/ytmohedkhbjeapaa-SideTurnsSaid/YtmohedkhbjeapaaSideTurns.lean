/-
  SideTurns holds: on the other side each node that isn't on both is on the other one; on both all parts of constructors are on both. No conditions.
-/
import Derived.Test.YtmohedkhbjeapaaSideA
import Derived.Test.YtmohedkhbjeapaaRef1Open
import Derived.Test.YtmohedkhbjeapaaExprOpen
import Derived.Test.YtmohedkhbjeapaaRows
import Derived.OpenShut
import Derived.RegionTactic
namespace Go.Proofs.Ytmohedkhbjeapaa.sideTurns
open Go.ChangeShapes Go.WideShapes Go.ChangeAt Go.RowKit Kit Rw Ex
open Go.ChangeMaps (open_string shut_string)
open Go.Proofs.Ytmohedkhbjeapaa.Sg (Sig Row Sized)

theorem len8 (L : List Sig) (s : UInt8) {l : List Tg} {x : Ex} (hs : runS [] l = some [x]) : (x.sides L s).length = l.length := by
  have hx : x.size = l.length := by
    have := run_sum (i := l.length) (by rw [List.take_length]; exact hs) (Nat.le_refl _)
    simpa [sumS] using this
  rw [sides_len, hx]
theorem last8 (L : List Sig) (s : UInt8) {l : List Tg} {x : Ex} (hs : runS [] l = some [x]) : (x.sides L s)[l.length - 1]? = some s := by
  have hx : x.size = l.length := by
    have := run_sum (i := l.length) (by rw [List.take_length]; exact hs) (Nat.le_refl _)
    simpa [sumS] using this
  rw [← hx]; exact sides_last L s x
theorem byte_at {w : World} {A : Option Addr} {F : List UInt8} {b : UInt8} {k : Nat} (h : Rds w w.heap.size A (cells8 F)) (hk : F[k]? = some b) : ∃ ad, A = some ad ∧ ad.block < w.heap.size ∧ w.cell? (ad.add k) = some (.int .u8 (b.toNat : Int)) := by
  have hl := (List.getElem?_eq_some_iff.1 hk).1
  obtain ⟨ad, e, hb, hc⟩ := h (by rw [cells8_len]; omega)
  exact ⟨ad, e, hb, hc k _ (cells8_at hk)⟩
set_option maxRecDepth 100000 in
set_option maxHeartbeats 8000000 in
theorem walk (A B : Option Addr) (m c n d : Nat) (L : List Sig) (l : List Tg) (w : World) (hm : m = L.length) (hn : n = l.length) (hL : Row w w.heap.size A L) (hS : Sized L) (hl8 : L.length ≤ maxLen) (hr : Rds w w.heap.size B (cellsG l)) (hl : l.length ≤ 140737488355328) (hz : ∀ t ∈ l, t.2.1.size ≤ 140737488355328) :
    Calls Try.prog 7 #[.slice A m c, .slice B n d] w fun e w' => e = .returned (.bool true) ∧ Q w w' := by
  subst hm hn
  have HL := Lib.hid hL
  have HR := Lib.hid hr
  have CO := Lib.hid (fun (W : World) (q : Q w W) => of_any8 A B L.length c l.length d L l W rfl rfl ((hL.q (Nat.le_refl _) q).more q.size) hS hl8 (hr.q q) hl hz)
  clear hL hS hr hz
  cases hof : ofB L l
  · rw [hof] at CO
    clear hof
    go_enter Try.func7, Try.ntmps7
    go_wp2_with fail
    refine (shown8_any _).mono ?_
    rintro e w1 ⟨rfl, q1⟩
    have p1 := Lib.hid q1
    clear q1
    go_wp2_with fail
    refine (CO.out _ p1.out).mono ?_
    rintro e w2 ⟨rfl, q2⟩
    have p2 := Lib.hid (p1.out.trans q2)
    clear q2
    go_wp2_with fail
    go_ret
    exact ⟨rfl, p2.out⟩
  · rw [hof] at CO
    obtain ⟨h64, hf, hm, ⟨x, hs⟩, hpos, h600⟩ := ofB_out hof
    have CF := Lib.hid (fun (s : UInt8) (W : World) (q : Q w W) => sideOf_any A B L.length c l.length d L l x s W rfl rfl ((HL.out.q (Nat.le_refl _) q).more q.size) (HR.out.q q) (by omega) h600 hm hs)
    have C76 : Hid (∀ W : World, Q w W → Calls Try.prog 14 #[.slice A L.length c, .slice B l.length d, .int .u8 76] W (SideOf (x.sides L 76) W)) := CF.out 76
    have C82 : Hid (∀ W : World, Q w W → Calls Try.prog 14 #[.slice A L.length c, .slice B l.length d, .int .u8 82] W (SideOf (x.sides L 82) W)) := CF.out 82
    have C66 : Hid (∀ W : World, Q w W → Calls Try.prog 14 #[.slice A L.length c, .slice B l.length d, .int .u8 66] W (SideOf (x.sides L 66) W)) := CF.out 66
    have HL1 := Lib.hid (len8 L 76 hs)
    have HL2 := Lib.hid (len8 L 82 hs)
    have HL3 := Lib.hid (len8 L 66 hs)
    have HT1 := Lib.hid (last8 L 76 hs)
    have HT2 := Lib.hid (last8 L 82 hs)
    have HE : Hid (∀ k, k < l.length → (x.sides L 66)[k]? = some 66 ∧ (((x.sides L 76)[k]? = some 76 ∧ (x.sides L 82)[k]? = some 82) ∨ ((x.sides L 76)[k]? = some 82 ∧ (x.sides L 82)[k]? = some 76) ∨ ((x.sides L 76)[k]? = some 66 ∧ (x.sides L 82)[k]? = some 66))) := fun k hk => by
      have h3 := HL3.out
      refine ⟨?_, ?_⟩
      · rw [sides_B L x] at h3 ⊢
        rw [List.length_replicate] at h3
        rw [List.getElem?_replicate, if_pos (by omega)]
      · have hd : x.sides L 82 = (x.sides L 76).map dualB := sides_dual L 76 x (.inl rfl)
        have hk1 : k < (x.sides L 76).length := by rw [HL1.out]; exact hk
        have hi := sides_is L 76 x (.inl rfl) _ (List.getElem_mem hk1)
        rw [hd, List.getElem?_map, List.getElem?_eq_getElem hk1]
        rcases hi with e | e | e <;> rw [e]
        · exact .inl ⟨rfl, rfl⟩
        · exact .inr (.inl ⟨rfl, rfl⟩)
        · exact .inr (.inr ⟨rfl, rfl⟩)
    clear CF hof hf hm hs h64
    generalize x.sides L 76 = FA at *
    generalize x.sides L 82 = FB at *
    generalize x.sides L 66 = FC at *
    go_enter Try.func7, Try.ntmps7
    go_wp2_with fail
    refine (shown8_any _).mono ?_
    rintro e w1 ⟨rfl, q1⟩
    have p1 := Lib.hid q1
    clear q1
    go_wp2_with fail
    refine (CO.out _ p1.out).mono ?_
    rintro e w2 ⟨rfl, q2⟩
    have p2 := Lib.hid (p1.out.trans q2)
    clear q2
    go_wp2_with fail
    refine (C76.out _ p2.out).mono ?_
    rintro e w3 ⟨A3, c3, rfl, r3, q3⟩
    have p3 := Lib.hid (p2.out.trans q3)
    have R3 := Lib.hid r3
    clear q3 r3
    go_wp2_with fail
    refine (C82.out _ p3.out).mono ?_
    rintro e w4 ⟨A4, c4, rfl, r4, q4⟩
    have p4 := Lib.hid (p3.out.trans q4)
    have R4 := Lib.hid r4
    have R34 := Lib.hid (R3.out.q q4)
    clear q4 r4
    go_wp2_with fail
    refine (C66.out _ p4.out).mono ?_
    rintro e w5 ⟨A5, c5, rfl, r5, q5⟩
    have p5 := Lib.hid (p4.out.trans q5)
    have R5 := Lib.hid r5
    have R35 := Lib.hid (R34.out.q q5)
    have R45 := Lib.hid (R4.out.q q5)
    clear q5 r5
    rw [HL1.out, HL2.out, HL3.out]
    go_wp2_with fail
    go_loopw [9] (fun i wr => ∃ k : Nat, k ≤ l.length ∧ i = .int .i64 k ∧ Hid (Q w5 wr)) (fun i _ => l.length - (intOf i).toNat)
    case atStart => exact ⟨0, Nat.zero_le _, rfl, Q.refl _⟩
    case round =>
      obtain ⟨k, hk, rfl, HQ⟩ := hrel
      by_cases hlt : k < l.length
      · obtain ⟨h3, hab⟩ := HE.out k hlt
        rcases hab with ⟨h1, h2⟩ | ⟨h1, h2⟩ | ⟨h1, h2⟩
        all_goals
          obtain ⟨a1, e1, _, d1⟩ := byte_at (R35.out.q HQ.out) h1
          obtain ⟨a2, e2, _, d2⟩ := byte_at (R45.out.q HQ.out) h2
          obtain ⟨a3, e3, _, d3⟩ := byte_at (R5.out.q HQ.out) h3
          subst e1 e2 e3
          simp only [show ((76 : UInt8).toNat : Int) = 76 from rfl, show ((82 : UInt8).toNat : Int) = 82 from rfl, show ((66 : UInt8).toNat : Int) = 66 from rfl] at d1 d2 d3
          clear h1 h2 h3
          go_wp2_with fail
          go_quiet (fail)
          go_wp2_with fail
          go_roundw
          case rel => exact ⟨k + 1, by omega, by go_num, HQ.out.drewN _⟩
          case measure => simp [intOf]; omega
      · obtain rfl : k = l.length := by omega
        obtain ⟨a1, e1, _, d1⟩ := byte_at (R35.out.q HQ.out) HT1.out
        obtain ⟨a2, e2, _, d2⟩ := byte_at (R45.out.q HQ.out) HT2.out
        subst e1 e2
        simp only [show ((76 : UInt8).toNat : Int) = 76 from rfl, show ((82 : UInt8).toNat : Int) = 82 from rfl] at d1 d2
        have HQ2 := Lib.hid (p5.out.trans HQ.out)
        go_wp2_with fail
        go_ret
        exact ⟨by first | rfl | simp, HQ2.out⟩

set_option maxRecDepth 100000 in
theorem lifted (os : Os) (started : os.Started) (H : Type) (enc : TypeId × Value → H) :
    ReturnsInHanded {} Try.checked os 7 .any (Rows.sideTurnsSpec.pre6 enc Try.prog Try.f7 Rows.sideTurnsRow.domain false) (Rows.sideTurnsSpec.post enc Try.prog Try.f7 false true false false) := by
  refine returnsInHanded_of_change_sized (C := Try.checked) own started (by kernel_rfl) Try.func7
    (ChangeSpec.witness6 (enc := enc) (C := Try.checked) false ⟨#[], #[.slice none 0 0, .slice none 0 0], []⟩ 8 (by kernel_rfl) (by kernel_rfl) (by kernel_rfl) (by kernel_rfl)) ?_
  intro W base args ds gs before hval0 hW hcnd hsz0 _
  have hval : ∀ (j : Nat) t v, Try.f7.params[j]? = some t → args[j]? = some v → Value.okWide Try.prog W .any base t v := hval0
  have hW' := hW
  obtain ⟨p, q, hA0, hV, rfl, hfz, hnd⟩ := hW
  have hA : DataW.TrodAll enc Try.prog W 0 (fun _ => true) true Try.f7.params.toList args.toList ds p := hA0
  rw [Try.params7] at hA hval
  obtain ⟨v0, vs0, d0, ds0, p0, q0, hargs, rfl, rfl, h0, r0⟩ := trodAll_cons hA
  obtain ⟨v1, vs1, d1, ds1, p1, q1, rfl, rfl, rfl, h1, r1⟩ := trodAll_cons r0
  obtain ⟨rfl, rfl, rfl⟩ := trodAll_nil r1
  obtain rfl : args = #[v0, v1] := by cases args; simp_all
  obtain ⟨rfl, rfl⟩ := trodVars_none hV
  have z0 : ∀ n ∈ d0.weights Try.prog 22, n ≤ reachBytes := fun n hn => by
    have := List.all_eq_true.1 hsz0 n (DataW.weights_mem_each (j := 0) (t := 22) (d := d0) (by rw [Try.params7]; rfl) rfl n hn)
    simpa using this
  have z1 : ∀ n ∈ d1.weights Try.prog 23, n ≤ reachBytes := fun n hn => by
    have := List.all_eq_true.1 hsz0 n (DataW.weights_mem_each (j := 1) (t := 23) (d := d1) (by rw [Try.params7]; rfl) rfl n hn)
    simpa using this
  obtain ⟨A0, m0, c0, L0, rfl, y0, hL0, g0, s0, _⟩ := Sg.open_sigs (hval 0 22 v0 rfl rfl) h0
  obtain ⟨B1, n1, k1, l1, rfl, x1, hr1, w1, _, u1⟩ := open_nodes (hval 1 23 v1 rfl rfl) h1 z1
  clear hA0 hval0
  refine (walk A0 B1 m0 c0 n1 k1 L0 l1 W y0 x1 hL0 s0 g0 hr1 w1 u1).mono fun e W' ⟨he, hg⟩ => ?_
  subst he
  exact ⟨_, rfl, post_law laid (by rw [Try.params7]; decide +kernel) rfl rfl (by kernel_rfl) Try.underlying4 hW' hg⟩

/-- THE STATEMENT -/
theorem proved : Rows.SideTurnsSaid :=
  OpenClaim.holds_of_wide 7 Try.f7 rfl rfl rfl rfl rfl rfl rfl ⟨rfl, rfl, rfl, rfl, rfl⟩ rfl rfl rfl rfl rfl (by kernel_rfl) Try.func7 (by kernel_rfl)
    (of_decide_eq_true (by kernel_rfl)) (by unfold Func.isWrapper; first | (rw [if_pos (by decide +kernel)]; kernel_rfl) | (rw [if_neg (by decide +kernel)]; exact ⟨rfl, rfl⟩))
    (fun os started H enc _ => lifted os started H enc)
end Go.Proofs.Ytmohedkhbjeapaa.sideTurns
