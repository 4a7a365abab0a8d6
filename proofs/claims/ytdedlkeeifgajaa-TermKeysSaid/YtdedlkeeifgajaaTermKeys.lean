/-
  TermKeys: terms are the same just if their keys are; a key has a term's three numbers first. Proved for every two terms: no condition.
-/
import Derived.Test.YtdedlkeeifgajaaTermOpen
import Derived.Test.YtdedlkeeifgajaaRows
namespace Go.Proofs.Ytdedlkeeifgajaa.termKeys
open Go.ChangeShapes Go.WideShapes Go.RowKit Kit Go.Deep Go.Joins Hs Tm

theorem bool_same (b : Bool) (u : World) : (binOp .eql 4 (.bool b) (.bool b)).run Try.prog u = .ok (.bool true) u := by
  cases b <;> rfl

theorem keep11 {w w' : World} {a b g : Nat} {v0 v1 v2 v3 u0 u1 u2 u3 z0 z1 z2 : Value} (p : Q w w') (ha : a < w.heap.size) (hb : b < w.heap.size) (hg : g < w.heap.size) (x0 : w.cell? ⟨a, 0, none⟩ = some v0) (x1 : w.cell? ⟨a, 1, none⟩ = some v1) (x2 : w.cell? ⟨a, 2, none⟩ = some v2) (x3 : w.cell? ⟨a, 3, none⟩ = some v3)
    (y0 : w.cell? ⟨b, 0, none⟩ = some u0) (y1 : w.cell? ⟨b, 1, none⟩ = some u1) (y2 : w.cell? ⟨b, 2, none⟩ = some u2) (y3 : w.cell? ⟨b, 3, none⟩ = some u3) (k0 : w.cell? ⟨g, 0, none⟩ = some z0) (k1 : w.cell? ⟨g, 1, none⟩ = some z1) (k2 : w.cell? ⟨g, 2, none⟩ = some z2) :
    w'.cell? ⟨a, 0, none⟩ = some v0 ∧ w'.cell? ⟨a, 1, none⟩ = some v1 ∧ w'.cell? ⟨a, 2, none⟩ = some v2 ∧ w'.cell? ⟨a, 3, none⟩ = some v3 ∧ w'.cell? ⟨b, 0, none⟩ = some u0 ∧ w'.cell? ⟨b, 1, none⟩ = some u1 ∧ w'.cell? ⟨b, 2, none⟩ = some u2 ∧ w'.cell? ⟨b, 3, none⟩ = some u3 ∧ w'.cell? ⟨g, 0, none⟩ = some z0 ∧ w'.cell? ⟨g, 1, none⟩ = some z1 ∧ w'.cell? ⟨g, 2, none⟩ = some z2 :=
  ⟨(p.cell (p := ⟨a, 0, none⟩) ha).trans x0, (p.cell (p := ⟨a, 1, none⟩) ha).trans x1, (p.cell (p := ⟨a, 2, none⟩) ha).trans x2, (p.cell (p := ⟨a, 3, none⟩) ha).trans x3, (p.cell (p := ⟨b, 0, none⟩) hb).trans y0, (p.cell (p := ⟨b, 1, none⟩) hb).trans y1, (p.cell (p := ⟨b, 2, none⟩) hb).trans y2, (p.cell (p := ⟨b, 3, none⟩) hb).trans y3,
   (p.cell (p := ⟨g, 0, none⟩) hg).trans k0, (p.cell (p := ⟨g, 1, none⟩) hg).trans k1, (p.cell (p := ⟨g, 2, none⟩) hg).trans k2⟩

set_option maxRecDepth 100000 in
set_option maxHeartbeats 4000000 in
theorem walk (E F : Option Addr) (n c m d : Nat) (s t : Tm) (w : World) (hn : n = s.xs.length) (hm : m = t.xs.length) (he : Ints w w.heap.size E s.xs) (hf : Ints w w.heap.size F t.xs) (hls : s.xs.length ≤ 1152921504606846976) (hlt : t.xs.length ≤ 1152921504606846976) :
    Calls Try.prog 8 #[.agg #[.int .i64 s.k, .int .i64 s.s, .int .i64 s.p, .slice E n c], .agg #[.int .i64 t.k, .int .i64 t.s, .int .i64 t.p, .slice F m d]] w fun e w' => e = .returned (.bool true) ∧ Q w w' := by
  subst hn
  subst hm
  have q0 := ((Q.refl w).alloc (Obj.cells #[.int .i64 s.k, .int .i64 s.s, .int .i64 s.p, .slice E s.xs.length c] 38)).alloc (Obj.cells #[.int .i64 t.k, .int .i64 t.s, .int .i64 t.p, .slice F t.xs.length d] 38)
  have He := Lib.hid ((he.q (Nat.le_refl _) q0).more q0.size)
  have Hf := Lib.hid ((hf.q (Nat.le_refl _) q0).more q0.size)
  have X := (Box4.new w (.int .i64 s.k) (.int .i64 s.s) (.int .i64 s.p) (.slice E s.xs.length c) 38).q ((Q.refl _).alloc (Obj.cells #[.int .i64 t.k, .int .i64 t.s, .int .i64 t.p, .slice F t.xs.length d] 38))
  have Y := Box4.new (w.alloc (Obj.cells #[.int .i64 s.k, .int .i64 s.s, .int .i64 s.p, .slice E s.xs.length c] 38)) (.int .i64 t.k) (.int .i64 t.s) (.int .i64 t.p) (.slice F t.xs.length d) 38
  rw [World.size_alloc] at Y
  have HX := Lib.hid X
  have HY := Lib.hid Y
  clear he hf X Y
  go_enter Try.func8, Try.ntmps8
  go_wp2_with fail
  generalize (w.alloc (Obj.cells #[.int .i64 s.k, .int .i64 s.s, .int .i64 s.p, .slice E s.xs.length c] 38)).alloc (Obj.cells #[.int .i64 t.k, .int .i64 t.s, .int .i64 t.p, .slice F t.xs.length d] 38) = W0 at *
  refine (shown3_any _).mono ?_
  rintro e w1 ⟨rfl, q1⟩
  have HX1 := Lib.hid (HX.out.q q1)
  have HY1 := Lib.hid (HY.out.q q1)
  have x0 := HX1.out.c0
  have x1 := HX1.out.c1
  have x2 := HX1.out.c2
  have x3 := HX1.out.c3
  have y3 := HY1.out.c3
  by_cases h200 : 200 < s.xs.length + t.xs.length
  · have d2 : decide (200 < (s.xs.length : Int) + (t.xs.length : Int)) = true := decide_eq_true (by omega)
    go_wp2_with fail
    go_ret
    exact ⟨rfl, q0.trans q1⟩
  · have d2 : decide (200 < (s.xs.length : Int) + (t.xs.length : Int)) = false := decide_eq_false (by omega)
    go_wp2_with fail
    refine (key_any _ _ _ _ _ _ s.xs _ rfl ((He.out.q (Nat.le_refl _) q1).more q1.size) (by omega)).mono ?_
    rintro e w2 ⟨g, ck, rfl, hg, hck, hO, q2⟩
    have hkl : (s.k :: s.s :: s.p :: s.xs).length = s.xs.length + 3 := by simp
    have k0 := (hO.2 0 s.k rfl).1
    have k1 := (hO.2 1 s.s rfl).1
    have k2 := (hO.2 2 s.p rfl).1
    have hgl := hO.1
    have HO := Lib.hid hO
    obtain ⟨N, hN⟩ : ∃ N, (s.k :: s.s :: s.p :: s.xs).length = N := ⟨_, rfl⟩
    rw [hN] at hkl ⊢
    have Hkl := Lib.hid hN
    have q12 := q1.trans q2
    have HX2 := Lib.hid (HX.out.q q12)
    have HY2 := Lib.hid (HY.out.q q12)
    have He2 := Lib.hid ((He.out.q (Nat.le_refl _) q12).more q12.size)
    have Hf2 := Lib.hid ((Hf.out.q (Nat.le_refl _) q12).more q12.size)
    clear x0 x1 x2 x3 y3 hO hck d2 hg hN
    have x0 := HX2.out.c0
    have x1 := HX2.out.c1
    have x2 := HX2.out.c2
    have x3 := HX2.out.c3
    have y0 := HY2.out.c0
    have y1 := HY2.out.c1
    have y2 := HY2.out.c2
    have y3 := HY2.out.c3
    have hxl := HX2.out.lt
    have hyl := HY2.out.lt
    have HSk : Hid (eqL (s.k :: s.s :: s.p :: s.xs) (t.k :: t.s :: t.p :: t.xs) = sameT s t) := sameT_key s t
    have HSs : Hid (sameT s s = true) := (sameT_iff s s).2 rfl
    have hls' : s.xs.length ≤ 200 := by omega
    have hlt' : t.xs.length ≤ 200 := by omega
    have hbs := bool_same (sameT s t)
    have hi0 : (0 : Int) < (N : Int) := by omega
    have hi1 : (1 : Int) < (N : Int) := by omega
    have hi2 : (2 : Int) < (N : Int) := by omega
    have hj0 : 0 < N := by omega
    have hj1 : 1 < N := by omega
    have hj2 : 2 < N := by omega
    have hNle : N ≤ 203 := by omega
    have he3 : ((N : Int) == 3 + (s.xs.length : Int)) = true := by simp; omega
    have hw3 : IntKind.i64.wrap (3 + (s.xs.length : Int)) = 3 + (s.xs.length : Int) := IntWalk.i64_in _ (by omega)
    have HCS : Hid (∀ W, Q w2 W → Calls Try.prog 30 #[.agg #[.int .i64 s.k, .int .i64 s.s, .int .i64 s.p, .slice E s.xs.length c], .agg #[.int .i64 s.k, .int .i64 s.s, .int .i64 s.p, .slice E s.xs.length c]] W fun e w' => e = .returned (.bool true) ∧ Q W w') := fun W p => by
      have := same_any E E _ c _ c s s W rfl rfl ((He2.out.q (Nat.le_refl _) p).more p.size) ((He2.out.q (Nat.le_refl _) p).more p.size) (by unfold maxLen; omega)
      rw [HSs.out] at this
      exact this
    have HCT : Hid (∀ W, Q w2 W → Calls Try.prog 30 #[.agg #[.int .i64 s.k, .int .i64 s.s, .int .i64 s.p, .slice E s.xs.length c], .agg #[.int .i64 t.k, .int .i64 t.s, .int .i64 t.p, .slice F t.xs.length d]] W fun e w' => e = .returned (.bool (sameT s t)) ∧ Q W w') := fun W p =>
      same_any E F _ c _ d s t W rfl rfl ((He2.out.q (Nat.le_refl _) p).more p.size) ((Hf2.out.q (Nat.le_refl _) p).more p.size) (by unfold maxLen; omega)
    clear h200 hls hlt hkl
    go_wp2_with fail
    go_region_held3 (fun w' => w'.cell? ⟨w.heap.size, 0, none⟩ = some (.int .i64 s.k) ∧ w'.cell? ⟨w.heap.size, 1, none⟩ = some (.int .i64 s.s) ∧ w'.cell? ⟨w.heap.size, 2, none⟩ = some (.int .i64 s.p) ∧ w'.cell? ⟨w.heap.size, 3, none⟩ = some (.slice E s.xs.length c)
        ∧ w'.cell? ⟨w.heap.size + 1, 0, none⟩ = some (.int .i64 t.k) ∧ w'.cell? ⟨w.heap.size + 1, 1, none⟩ = some (.int .i64 t.s) ∧ w'.cell? ⟨w.heap.size + 1, 2, none⟩ = some (.int .i64 t.p) ∧ w'.cell? ⟨w.heap.size + 1, 3, none⟩ = some (.slice F t.xs.length d)
        ∧ w'.cell? ⟨g, 0, none⟩ = some (.int .i64 s.k) ∧ w'.cell? ⟨g, 1, none⟩ = some (.int .i64 s.s) ∧ w'.cell? ⟨g, 2, none⟩ = some (.int .i64 s.p))
      (first
        | go_keep
        | exact keep11 p6 hxl hyl hgl x0 x1 x2 x3 y0 y1 y2 y3 k0 k1 k2
        | exact keep11 p5 hxl hyl hgl x0 x1 x2 x3 y0 y1 y2 y3 k0 k1 k2
        | exact keep11 p4 hxl hyl hgl x0 x1 x2 x3 y0 y1 y2 y3 k0 k1 k2
        | exact keep11 p3 hxl hyl hgl x0 x1 x2 x3 y0 y1 y2 y3 k0 k1 k2)
      (first
        | (go_at_call 15; refine (refInts_any _ _ _ _ _ _ (s.k :: s.s :: s.p :: s.xs) (t.k :: t.s :: t.p :: t.xs) _ Hkl.out.symm rfl (by exact ((HO.out.ints.q (Nat.le_refl _) p4).more p4.size)) (by exact HO4.out) (by rw [Hkl.out]; unfold maxLen; omega)).mono ?_; rintro e w5 ⟨rfl, hd5⟩; have q5 := Q.of_drewN hd5; clear hd5; rw [HSk.out]; have p5 := p4.trans q5)
        | (go_at_call 29; refine (key_any _ _ _ _ _ _ t.xs _ rfl (by exact ((Hf2.out.q (Nat.le_refl _) p3).more p3.size)) (by omega)).mono ?_; rintro e w4 ⟨g4, c4, rfl, hg4, hc4, hO4, q4⟩; have HO4 := Lib.hid hO4.ints; clear hO4; have p4 := p3.trans q4)
        | (go_at_call 30; (with_reducible refine (HCS.out _ p5).mono ?_); rintro e w6 ⟨rfl, q6⟩; have p6 := p5.trans q6)
        | (go_at_call 30; (with_reducible refine (HCT.out _ (Q.refl w2).drew).mono ?_); rintro e w3 ⟨rfl, q3⟩; have p3 := (Q.refl w2).drew.trans q3))
    go_wp2_with fail
    go_ret
    exact ⟨rfl, (q0.trans q12).trans p6⟩

set_option maxRecDepth 100000 in
theorem lifted (os : Os) (started : os.Started) (H : Type) (enc : TypeId × Value → H) :
    ReturnsInHanded {} Try.checked os 8 .any (Rows.termKeysSpec.pre6 enc Try.prog Try.f8 Rows.termKeysRow.domain false) (Rows.termKeysSpec.post enc Try.prog Try.f8 false true false false) := by
  refine returnsInHanded_of_change_sized (C := Try.checked) own started (by kernel_rfl) Try.func8
    (ChangeSpec.witness6 (enc := enc) (C := Try.checked) false ⟨#[], #[.agg #[.int .i64 0, .int .i64 0, .int .i64 0, .slice none 0 0], .agg #[.int .i64 0, .int .i64 0, .int .i64 0, .slice none 0 0]], []⟩ 8 (by kernel_rfl) (by kernel_rfl) (by kernel_rfl) (by kernel_rfl)) ?_
  intro W base args ds gs before hval0 hW hcnd hsz0 _
  have hval : ∀ (j : Nat) t v, Try.f8.params[j]? = some t → args[j]? = some v → Value.okWide Try.prog W .any base t v := hval0
  have hW' := hW
  obtain ⟨p, q, hA0, hV, rfl, hfz, hnd⟩ := hW
  have hA : DataW.TrodAll enc Try.prog W 0 (fun _ => true) true Try.f8.params.toList args.toList ds p := hA0
  rw [Try.params8] at hA hval
  obtain ⟨v0, vs0, d0, ds0, p0, q0, hargs, rfl, rfl, h0, r0⟩ := trodAll_cons hA
  obtain ⟨v1, vs1, d1, ds1, p1, q1, rfl, rfl, rfl, h1, r1⟩ := trodAll_cons r0
  obtain ⟨rfl, rfl, rfl⟩ := trodAll_nil r1
  obtain rfl : args = #[v0, v1] := by cases args; simp_all
  obtain ⟨rfl, rfl⟩ := trodVars_none hV
  have z0 : ∀ n ∈ d0.weights Try.prog 38, n ≤ reachBytes := fun n hn => by
    have := List.all_eq_true.1 hsz0 n (DataW.weights_mem_each (j := 0) (t := 38) (d := d0) (by rw [Try.params8]; rfl) rfl n hn)
    simpa using this
  have z1 : ∀ n ∈ d1.weights Try.prog 38, n ≤ reachBytes := fun n hn => by
    have := List.all_eq_true.1 hsz0 n (DataW.weights_mem_each (j := 1) (t := 38) (d := d1) (by rw [Try.params8]; rfl) rfl n hn)
    simpa using this
  obtain ⟨s, E, n, c, rfl, hn, he, _, hls⟩ := open_term (hval 0 38 v0 rfl rfl) h0 z0
  obtain ⟨t, F, m, d, rfl, hm, hf, _, hlt⟩ := open_term (hval 1 38 v1 rfl rfl) h1 z1
  clear hA0 hval0
  refine (walk E F n c m d s t W hn hm he hf hls hlt).mono fun e W' ⟨he, hg⟩ => ?_
  subst he
  exact ⟨_, rfl, post_law laid (by rw [Try.params8]; decide +kernel) rfl rfl (by kernel_rfl) Try.underlying4 hW' hg⟩

/-- THE STATEMENT -/
theorem proved : Rows.TermKeysSaid :=
  OpenClaim.holds_of_wide 8 Try.f8 rfl rfl rfl rfl rfl rfl rfl ⟨rfl, rfl, rfl, rfl, rfl⟩ rfl rfl rfl rfl rfl (by kernel_rfl) Try.func8 (by kernel_rfl)
    (of_decide_eq_true (by kernel_rfl)) (by unfold Func.isWrapper; first | (rw [if_pos (by decide +kernel)]; kernel_rfl) | (rw [if_neg (by decide +kernel)]; exact ⟨rfl, rfl⟩))
    (fun os started H enc _ => lifted os started H enc)
end Go.Proofs.Ytdedlkeeifgajaa.termKeys
