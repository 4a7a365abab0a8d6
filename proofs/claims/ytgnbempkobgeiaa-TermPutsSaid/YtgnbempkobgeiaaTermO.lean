/-
  Contracts of hasItsParts and May.
-/
import Derived.Test.YtgnbempkobgeiaaTermN
namespace Go.Proofs.Ytgnbempkobgeiaa.Tm
open Go.RowKit Kit Hs

set_option maxRecDepth 100000 in
set_option maxHeartbeats 1000000 in
theorem hasItsParts_any (L E : Option Addr) (nl cl n c : Nat) (l : List Sg.Sig) (t : Tm) (w : World) (hnl : nl = l.length) (hr : Sg.Row w w.heap.size L l) (hn : n = t.xs.length) (hw : Wf t.k) (hst : standB l t = true) :
    Calls Try.prog 41 #[.slice L nl cl, .agg #[.int .i64 t.k, .int .i64 t.s, .int .i64 t.p, .slice E n c]] w fun e w' => e = .returned (.bool (hasB l t)) ∧ Q w w' := by
  subst hnl
  have q0 := (Q.refl w).alloc (Obj.cells #[.int .i64 t.k, .int .i64 t.s, .int .i64 t.p, .slice E n c] 28)
  by_cases k3 : t.k = 3
  · have hs : isPl t.s l.length = true := by
      unfold standB at hst
      rw [if_neg (by omega), if_pos k3] at hst
      simp only [Bool.and_eq_true] at hst
      exact hst.1
    have HR : Hid (hasB l t = ((n : Int) == arity l t.s)) := by unfold Hid hasB; rw [if_pos k3, hn]
    have e3 : (t.k == 3) = true := by simpa using k3
    obtain ⟨h0, h1⟩ := (isPl_iff _ _).1 hs
    obtain ⟨i, hi⟩ := Int.eq_ofNat_of_zero_le h0
    have hlt : i < l.length := by omega
    rw [hi] at HR h0 h1 q0
    rw [arity_at hlt] at HR
    obtain ⟨ad, rfl, hb, _, c1⟩ := hr.at_ hlt
    have c1' := (q0.cell (p := ⟨(ad.add (i * 2)).block, (ad.add (i * 2)).off + 1, none⟩) (by show (ad.add (i * 2)).block < _; rw [add_block]; exact hb)).trans c1
    obtain ⟨k, s, p, xs⟩ := t
    obtain rfl : s = (i : Int) := hi
    have c1d : (((w.alloc (Obj.cells #[.int .i64 k, .int .i64 (i : Int), .int .i64 p, .slice E n c] 28)).cell? ⟨(ad.add (i * 2)).block, (ad.add (i * 2)).off + 1, none⟩) = some (.string l[i].2)) := c1'
    clear hr k3 c1 c1' hn hst hs
    go_enter Try.func41, Try.ntmps41
    go_wp2_with fail
    go_quiet (fail)
    go_wp2_with fail
    go_ret
    exact ⟨by rw [HR.out]; rfl, q0.drewN _⟩
  · have e3 : (t.k == 3) = false := by simpa using k3
    have HR : Hid (hasB l t = (isKindB t.k && ((n : Int) == partsN t.k))) := by unfold Hid hasB; rw [if_neg k3, hn]
    clear hr k3 hn hst
    have X := Box4.new w (.int .i64 t.k) (.int .i64 t.s) (.int .i64 t.p) (.slice E n c) 28
    go_enter Try.func41, Try.ntmps41
    go_wp2_with fail
    generalize w.alloc (Obj.cells #[.int .i64 t.k, .int .i64 t.s, .int .i64 t.p, .slice E n c] 28) = W0 at *
    have HX := Lib.hid X
    have x0 := X.c0
    have xl := X.lt
    clear X
    go_region_held3 (fun w' => w'.cell? ⟨w.heap.size, 0, none⟩ = some (.int .i64 t.k))
      (first
        | go_keep
        | exact (p1.cell (p := ⟨w.heap.size, 0, none⟩) xl).trans x0)
      (first
        | (go_at_call 60; refine (parts_any _).mono ?_; rintro e w1 ⟨B, rfl, q1, hL⟩; have p1 := (Q.refl W0).drew.trans q1; have hlk := hL w1 (Q.refl _) t.k hw; clear hL))
    have z0 := (HX.out.q p1).c3
    clear hlk
    cases hk : isKindB t.k
    all_goals
      rw [hk] at HR
      go_wp2_with fail
      go_ret
      exact ⟨by rw [HR.out]; rfl, q0.trans p1⟩

theorem allPl_at (xs : List Int) (m k : Nat) (h : k < xs.length) : allPl (xs.drop k) m = (isPl xs[k] m && allPl (xs.drop (k + 1)) m) := by
  rw [List.drop_eq_getElem_cons h]; rfl
theorem allPl_end (xs : List Int) (m k : Nat) (h : xs.length ≤ k) : allPl (xs.drop k) m = true := by
  rw [List.drop_eq_nil_of_le h]; rfl

set_option maxRecDepth 100000 in
set_option maxHeartbeats 1000000 in
theorem may_any (L A S E : Option Addr) (nl cl na ca m d n c : Nat) (l : List Sg.Sig) (t : Tm) (w : World) (hnl : nl = l.length) (hr : Sg.Row w w.heap.size L l) (hn : n = t.xs.length) (he : Ints w w.heap.size E t.xs) (hw : Wf t.k) (hl : t.xs.length ≤ maxLen) :
    Calls Try.prog 17 #[.slice L nl cl, .agg #[.slice A na ca, .slice S m d], .agg #[.int .i64 t.k, .int .i64 t.s, .int .i64 t.p, .slice E n c]] w fun e w' => e = .returned (.bool (mayB l na t)) ∧ Q w w' := by
  subst hnl
  unfold maxLen at hl
  have q0 := ((Q.refl w).alloc (Obj.cells #[Value.slice A na ca, Value.slice S m d] 26)).alloc (Obj.cells #[.int .i64 t.k, .int .i64 t.s, .int .i64 t.p, .slice E n c] 28)
  have Hr := Lib.hid ((hr.q (Nat.le_refl _) q0).more q0.size)
  have He := Lib.hid ((he.q (Nat.le_refl _) q0).more q0.size)
  have X := Box4.new (w.alloc (Obj.cells #[Value.slice A na ca, Value.slice S m d] 26)) (.int .i64 t.k) (.int .i64 t.s) (.int .i64 t.p) (.slice E n c) 28
  rw [World.size_alloc] at X
  have HX := Lib.hid X
  have HB := Lib.hid ((BoxT.new w (Value.slice A na ca) (Value.slice S m d) 26).q ((Q.refl _).alloc (Obj.cells #[.int .i64 t.k, .int .i64 t.s, .int .i64 t.p, .slice E n c] 28)))
  have Hn := Lib.hid hn
  have HM : Hid (mayB l na t = (standB l t && hasB l t && allPl t.xs na)) := rfl
  clear hr he X hn
  go_enter Try.func17, Try.ntmps17
  go_wp2_with fail
  generalize (w.alloc (Obj.cells #[Value.slice A na ca, Value.slice S m d] 26)).alloc (Obj.cells #[.int .i64 t.k, .int .i64 t.s, .int .i64 t.p, .slice E n c] 28) = W0 at *
  refine (mayStand_any _ _ _ _ _ _ l t _ rfl Hr.out).mono ?_
  rintro e w1 ⟨rfl, q1⟩
  have HX1 := Lib.hid (HX.out.q q1)
  have x0 := HX1.out.c0
  have x1 := HX1.out.c1
  have x2 := HX1.out.c2
  have x3 := HX1.out.c3
  cases hst : standB l t
  · rw [hst] at HM
    go_wp2_with fail
    go_ret
    exact ⟨by rw [HM.out]; rfl, q0.trans q1⟩
  · have Hst := Lib.hid hst
    rw [hst] at HM
    go_wp2_with fail
    refine (hasItsParts_any _ _ _ _ _ _ l t _ rfl ((Hr.out.q (Nat.le_refl _) q1).more q1.size) Hn.out hw Hst.out).mono ?_
    rintro e w2 ⟨rfl, q2⟩
    have q12 := q1.trans q2
    clear x0 x1 x2 x3
    have HX2 := Lib.hid (HX.out.q q12)
    have x3 := HX2.out.c3
    have b0 := (HB.out.q q12).c0
    cases hha : hasB l t
    · rw [hha] at HM
      go_wp2_with fail
      go_ret
      exact ⟨by rw [HM.out]; rfl, q0.trans q12⟩
    · rw [hha] at HM
      have HM2 : Hid (mayB l na t = allPl t.xs na) := by unfold Hid; rw [HM.out]; rfl
      obtain ⟨N, hN⟩ : ∃ N, N = t.xs.length := ⟨_, rfl⟩
      obtain rfl : n = N := by rw [hN]; exact Hn.out
      have He2 := Lib.hid ((He.out.q (Nat.le_refl _) q12).more q12.size)
      have HN := Lib.hid hN
      rw [← hN] at hl
      clear hN hst hha
      go_wp2_with fail
      go_loopw [8, 22] (fun _ i wr => ∃ k : Nat, k ≤ n ∧ i = .int .i64 k ∧ Hid (allPl t.xs na = allPl (t.xs.drop k) na) ∧ w2 = wr) (fun _ i _ => n - (intOf i).toNat)
      case atStart => exact ⟨0, Nat.zero_le _, rfl, Lib.hid rfl, rfl⟩
      case round =>
        obtain ⟨k, hk, rfl, HF, rfl⟩ := hrel
        by_cases hlt : k < n
        · have hltx : k < t.xs.length := by have := HN.out; omega
          obtain ⟨ad, rfl, hb, c0⟩ := He2.out.at_ hltx
          have HS := Lib.hid (allPl_at t.xs na k hltx)
          cases hp : isPl t.xs[k] na
          · have HS' : Hid (allPl (t.xs.drop k) na = false) := by unfold Hid; rw [HS.out, hp]; rfl
            have C := isPlace_any t.xs[k] na w2
            rw [hp] at C
            have HC := Lib.hid C
            clear C hp
            go_wp2_with (go_at_call 35; refine HC.out.mono ?_; rintro e w' ⟨rfl, rfl⟩)
            go_ret
            exact ⟨by rw [HM2.out, HF.out, HS'.out]; rfl, q0.trans q12⟩
          · have HS' : Hid (allPl (t.xs.drop k) na = allPl (t.xs.drop (k + 1)) na) := by unfold Hid; rw [HS.out, hp]; rfl
            have C := isPlace_any t.xs[k] na w2
            rw [hp] at C
            have HC := Lib.hid C
            clear C hp
            go_wp2_with (go_at_call 35; refine HC.out.mono ?_; rintro e w' ⟨rfl, rfl⟩)
            go_roundw
            case rel => exact ⟨k + 1, by omega, by go_num, Lib.hid (HF.out.trans HS'.out), trivial⟩
            case measure => simp [intOf]; omega
        · have HS := Lib.hid (allPl_end t.xs na k (by have := HN.out; omega))
          go_wp2_with fail
          go_ret
          exact ⟨by rw [HM2.out, HF.out, HS.out]; rfl, q0.trans q12⟩
end Go.Proofs.Ytgnbempkobgeiaa.Tm
