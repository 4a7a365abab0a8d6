/-
  What the proofs lean on, part 6 of 12.
-/
import Derived.Test.YtjmopbimleoidaaGreatPa
import Derived.Test.YtjmopbimleoidaaGreatPb
import Derived.Test.YtjmopbimleoidaaGreatPc
import Derived.Test.YtjmopbimleoidaaGreatPd
import Derived.Test.YtjmopbimleoidaaGreatPe
import Derived.Laws.Cover1
import Derived.Outline
import Derived.Laws.Append
import Derived.Laws.MakeOwn
import Derived.Laws.CopyOwn
import Derived.Laws.OwnMore
import Derived.OwnWalk
import Derived.Deep.RegionHeld
import Derived.Deep.Slices
import Derived.Deep.Fields
import Derived.ChangeSame
import Derived.SizedLaws
import Derived.OpenShut
import Derived.Lib.SmallJoins
namespace Go.Proofs.YtjmopbimleoidaaGreat.Ig
open Go.RowKit Kit Tr Uf
open Go.Proofs.YtjmopbimleoidaaGreat.Hs (Keys Ints BoxT layI Dist findR_any)
open Go.Proofs.YtjmopbimleoidaaGreat.Tm (Tm termAt of_any key_any KeyPost Box4 LookPost)
set_option maxHeartbeats 400000 in
theorem place12 (a m : Int) (w : World) : Calls Tryz.prog 84 #[.int .i64 a, .int .i64 m] w fun e w' => e = .returned (.bool (decide (0 ≤ a) && decide (a < m))) ∧ w = w' := by
  by_cases h : 0 ≤ a
  · have hd : decide (0 ≤ a) = true := decide_eq_true h
    rw [hd]
    go_enter Tryz.func84, Tryz.ntmps84
    go_wp2_with fail
    go_ret
    exact ⟨rfl, rfl⟩
  · have hd : decide (0 ≤ a) = false := decide_eq_false h
    rw [hd]
    go_enter Tryz.func84, Tryz.ntmps84
    go_wp2_with fail
    go_ret
    exact ⟨rfl, rfl⟩

set_option maxRecDepth 100000 in
set_option maxHeartbeats 1000000 in
theorem there12 (m : Nat) (r b2 b3 : Value) (Av Pa Ta : Option Addr) (cv cp ct : Nat) (v : Int) (w : World) :
    Calls Tryz.prog 39 #[.agg #[r, .slice Av m cv, b2, b3, .slice Pa m cp, .slice Ta m ct], .int .i64 v] w fun e w' => e = .returned (.bool (decide (0 ≤ v) && decide (v < (m : Int)))) ∧ Q w w' := by
  have q0 := (Q.refl w).alloc (Obj.cells #[r, .slice Av m cv, b2, b3, .slice Pa m cp, .slice Ta m ct] 31)
  have hm : (if (m : Int) < (if (m : Int) < (m : Int) then (m : Int) else (m : Int)) then (m : Int) else (if (m : Int) < (m : Int) then (m : Int) else (m : Int))) = (m : Int) := by simp
  go_enter Tryz.func39, Tryz.ntmps39
  go_wp2_with (go_at_call 84; refine (place12 v m _).mono ?_; rintro e w1 ⟨rfl, rfl⟩)
  go_ret
  exact ⟨rfl, q0⟩

/-- what the laws ask of a store -/
structure OkS (ks : List (List Int)) : Prop where
  dist : Dist ks
  len : ks.length ≤ 5000
  key : ∀ k ∈ ks, k.length ≤ 100000
  var : ∀ id t, termAt ks id = some t → t.k = 2 → 0 ≤ t.s
theorem numV_def (ks : List (List Int)) (m : Nat) (id : Int) : numV ks m id = if (termAt ks id).isSome = true ∧ ((termAt ks id).getD Tm.none).k = 2 ∧ ((termAt ks id).getD Tm.none).s < (m : Int) then ((termAt ks id).getD Tm.none).s else -1 := rfl
/-- a place's variable, or nought -/
def varN (ks : List (List Int)) (m : Nat) (id : Int) : Int := if 0 ≤ numV ks m id then numV ks m id else 0

set_option maxRecDepth 100000 in
set_option maxHeartbeats 4000000 in
theorem variable12 (A S Av Pa Ta : Option Addr) (n c ms d m cv cp ct : Nat) (r b2 b3 : Value) (ks : List (List Int)) (id : Int) (w : World) (hn : n = ks.length) (hk : Keys w w.heap.size A ks) (hO : OkS ks) :
    Calls Tryz.prog 67 #[.agg #[.slice A n c, .slice S ms d], .agg #[r, .slice Av m cv, b2, b3, .slice Pa m cp, .slice Ta m ct], .int .i64 id] w fun e w' => e = .returned (.tuple #[.int .i64 (varN ks m id), .bool (decide (0 ≤ numV ks m id))]) ∧ Q w w' := by
  subst hn
  have q0 := ((Q.refl w).alloc (Obj.cells #[Value.slice A ks.length c, Value.slice S ms d] 26)).alloc (Obj.cells #[r, .slice Av m cv, b2, b3, .slice Pa m cp, .slice Ta m ct] 31)
  have HB := Lib.hid ((BoxT.new w (Value.slice A ks.length c) (Value.slice S ms d) 26).q ((Q.refl _).alloc (Obj.cells #[r, .slice Av m cv, b2, b3, .slice Pa m cp, .slice Ta m ct] 31)))
  have X := Box6.new (w.alloc (Obj.cells #[Value.slice A ks.length c, Value.slice S ms d] 26)) r (.slice Av m cv) b2 b3 (.slice Pa m cp) (.slice Ta m ct) 31
  rw [World.size_alloc] at X
  have HG := Lib.hid X
  have Hk := Lib.hid ((hk.q (Nat.le_refl _) q0).more q0.size)
  have HV := Lib.hid hO.var
  have HN := Lib.hid (numV_def ks m id)
  have HW : Hid (varN ks m id = if 0 ≤ numV ks m id then numV ks m id else 0) := rfl
  have hkey := hO.key
  clear hk X hO
  go_enter Tryz.func67, Tryz.ntmps67
  go_upto_region 1 with fail
  generalize (w.alloc (Obj.cells #[Value.slice A ks.length c, Value.slice S ms d] 26)).alloc (Obj.cells #[r, .slice Av m cv, b2, b3, .slice Pa m cp, .slice Ta m ct] 31) = W0 at *
  have b0 := HB.out.c0
  have b1' := HB.out.c1
  have C := Lib.hid (of_any A S _ c ms d ks id W0 rfl Hk.out hkey)
  clear hkey
  go_upto_region 2 with (go_at_call 111; refine C.out.mono ?_; rintro e w2 ⟨At, nt, ct', rfl, rfl, _, q1⟩)
  have HV2 : Hid ((termAt ks id).isSome = true → ((termAt ks id).getD Tm.none).k = 2 → 0 ≤ ((termAt ks id).getD Tm.none).s) := fun h => by
    cases e : termAt ks id with
    | none => rw [e] at h; cases h
    | some t => exact HV.out id t e
  clear HV
  generalize (termAt ks id).isSome = is at *
  generalize (termAt ks id).getD Tm.none = t at *
  have qt := q1.alloc (Obj.cells #[.int .i64 t.k, .int .i64 t.s, .int .i64 t.p, .slice At t.xs.length ct'] 107)
  have HGq := Lib.hid (HG.out.q qt)
  have g0 := HGq.out.c0
  have g1 := HGq.out.c1
  have g2 := HGq.out.c2
  have g3 := HGq.out.c3
  have g4 := HGq.out.c4
  have g5 := HGq.out.c5
  have X := Box4.new w2 (.int .i64 t.k) (.int .i64 t.s) (.int .i64 t.p) (.slice At t.xs.length ct') 107
  have x0 := X.c0
  have HQt := Lib.hid qt
  have x1 := X.c1
  clear X C b0 b1' q1
  have no : numV ks m id = -1 → varN ks m id = 0 ∧ decide (0 ≤ numV ks m id) = false := fun h => by rw [HW.out, h]; exact ⟨rfl, rfl⟩
  cases is
  · obtain ⟨e1, e2⟩ := no (by rw [HN.out, if_neg (fun h => by cases h.1)])
    have E1 := Lib.hid e1
    have E2 := Lib.hid e2
    clear e1 e2 no
    go_wp2_with fail
    go_ret2
    exact ⟨by rw [E1.out, E2.out]; rfl, q0.trans qt⟩
  · by_cases h2 : t.k = 2
    · have d2 : (t.k != 2) = false := by simp [h2]
      have hs0 : 0 ≤ t.s := HV2.out rfl h2
      have d3 : decide (0 ≤ t.s) = true := decide_eq_true hs0
      have HC : Hid (Calls Tryz.prog 39 #[.agg #[r, .slice Av m cv, b2, b3, .slice Pa m cp, .slice Ta m ct], .int .i64 t.s] (w2.alloc (Obj.cells #[.int .i64 t.k, .int .i64 t.s, .int .i64 t.p, .slice At t.xs.length ct'] 107)) fun e w' => e = .returned (.bool (decide (0 ≤ t.s) && decide (t.s < (m : Int)))) ∧ Q (w2.alloc (Obj.cells #[.int .i64 t.k, .int .i64 t.s, .int .i64 t.p, .slice At t.xs.length ct'] 107)) w') := there12 m r b2 b3 Av Pa Ta cv cp ct t.s _
      rw [d3, Bool.true_and] at HC
      have HB4 := Lib.hid (Box4.new w2 (.int .i64 t.k) (.int .i64 t.s) (.int .i64 t.p) (.slice At t.xs.length ct') 107)
      by_cases hs : t.s < (m : Int)
      · have d4 : decide (t.s < (m : Int)) = true := decide_eq_true hs
        rw [d4] at HC
        have E1 : Hid (numV ks m id = t.s) := by unfold Hid; rw [HN.out, if_pos ⟨rfl, h2, hs⟩]
        have E2 : Hid (varN ks m id = t.s) := by unfold Hid; rw [HW.out, E1.out, if_pos hs0]
        have E3 := Lib.hid d3
        clear h2 hs hs0 no d3 d4
        generalize w2.alloc (Obj.cells #[.int .i64 t.k, .int .i64 t.s, .int .i64 t.p, .slice At t.xs.length ct'] 107) = W2 at *
        go_wp2_with (go_at_call 39; refine HC.out.mono ?_; rintro e w3 ⟨rfl, q3⟩; have y1 := (HB4.out.q q3).c1)
        go_ret2
        exact ⟨by rw [E1.out, E2.out, E3.out]; rfl, q0.trans (HQt.out.trans q3)⟩
      · have d4 : decide (t.s < (m : Int)) = false := decide_eq_false hs
        rw [d4] at HC
        obtain ⟨e1, e2⟩ := no (by rw [HN.out, if_neg (fun h => hs h.2.2)])
        have E1 := Lib.hid e1
        have E2 := Lib.hid e2
        clear h2 hs hs0 no d3 d4 e1 e2
        generalize w2.alloc (Obj.cells #[.int .i64 t.k, .int .i64 t.s, .int .i64 t.p, .slice At t.xs.length ct'] 107) = W2 at *
        go_wp2_with (go_at_call 39; refine HC.out.mono ?_; rintro e w3 ⟨rfl, q3⟩)
        go_ret2
        exact ⟨by rw [E1.out, E2.out]; rfl, q0.trans (HQt.out.trans q3)⟩
    · have d2 : (t.k != 2) = true := by simpa using h2
      obtain ⟨e1, e2⟩ := no (by rw [HN.out, if_neg (fun h => h2 h.2.1)])
      have E1 := Lib.hid e1
      have E2 := Lib.hid e2
      clear h2 e1 e2 no
      go_wp2_with fail
      go_ret2
      exact ⟨by rw [E1.out, E2.out]; rfl, q0.trans qt⟩

set_option maxRecDepth 100000 in
set_option maxHeartbeats 2000000 in
theorem placeOf12 (A S : Option Addr) (n c m d : Nat) (ks : List (List Int)) (v : Int) (w : World) (hn : n = ks.length) (hm : m = (layI ks).length) (hk : Keys w w.heap.size A ks) (hS : Ints w w.heap.size S (layI ks)) (hO : OkS ks) :
    Calls Tryz.prog 42 #[.agg #[.slice A n c, .slice S m d], .int .i64 v] w fun e w' => e = .returned (.int .i64 (atV ks v)) ∧ Q w w' := by
  subst hn hm
  have q0 := (Q.refl w).alloc (Obj.cells #[Value.slice A ks.length c, Value.slice S (layI ks).length d] 26)
  have HB := Lib.hid (BoxT.new w (Value.slice A ks.length c) (Value.slice S (layI ks).length d) 26)
  have Hk := Lib.hid ((hk.q (Nat.le_refl _) q0).more q0.size)
  have HS := Lib.hid ((hS.q (Nat.le_refl _) q0).more q0.size)
  have HO := Lib.hid hO
  clear hk hS hO
  go_enter Tryz.func42, Tryz.ntmps42
  go_upto_region 1 with fail
  generalize w.alloc (Obj.cells #[Value.slice A ks.length c, Value.slice S (layI ks).length d] 26) = W0 at *
  have b0 := HB.out.c0
  have b1 := HB.out.c1
  have hlt := HB.out.lt
  have CK : Hid (∀ W, Calls Tryz.prog 90 #[.agg #[.int .i64 2, .int .i64 v, .int .i64 0, .slice none 0 0]] W (KeyPost [2, v, 0] W)) := fun W => key_any none 0 0 2 v 0 [] W rfl (fun h => absurd h (by simp)) (by simp)
  have CF : Hid (∀ W g cc, Q W0 W → Hs.OwnI W g [2, v, 0] → Calls Tryz.prog 89 #[.agg #[.slice A ks.length c, .slice S (layI ks).length d], .slice (some ⟨g, 0, none⟩) 3 cc] W fun e w' => e = .returned (.int .i64 (atV ks v)) ∧ Q W w') := fun W g cc q ho =>
    findR_any A S _ _ c _ d 3 cc ks [2, v, 0] W rfl rfl rfl ((Hk.out.q (Nat.le_refl _) q).more q.size) ((HS.out.q (Nat.le_refl _) q).more q.size) ho.ints HO.out.dist (fun k h => Nat.le_trans (HO.out.key k h) (by unfold maxLen; omega)) (by unfold maxLen; simp) HO.out.len
  go_region_held3 (fun w' => w'.cell? ⟨w.heap.size, 0, none⟩ = some (.slice A ks.length c) ∧ w'.cell? ⟨w.heap.size, 1, none⟩ = some (.slice S (layI ks).length d))
    (first
      | go_keep
      | exact ⟨(p2.cell (p := ⟨w.heap.size, 0, none⟩) hlt).trans b0, (p2.cell (p := ⟨w.heap.size, 1, none⟩) hlt).trans b1⟩
      | exact ⟨(p1.cell (p := ⟨w.heap.size, 0, none⟩) hlt).trans b0, (p1.cell (p := ⟨w.heap.size, 1, none⟩) hlt).trans b1⟩)
    (first
      | (go_at_call 90; (with_reducible refine (CK.out _).mono ?_); rintro e w1 ⟨g1, c1, rfl, -, -, o1, q1⟩; have O1 := Lib.hid o1; clear o1; have p1 : Q W0 w1 := (Q.refl W0).drew.trans q1)
      | (go_at_call 89; (with_reducible refine (CF.out _ _ _ p1 O1.out).mono ?_); rintro e w2 ⟨rfl, q2⟩; have p2 : Q W0 w2 := p1.trans q2))
  go_wp2_with fail
  go_ret
  exact ⟨rfl, q0.trans p2⟩

set_option maxRecDepth 100000 in
set_option maxHeartbeats 4000000 in
theorem rep12 (R V : List Int) (A S Av D E Pa Ta : Option Addr) (N : List Note) (M : List Int) (n c ms d nv cv n2 k2 n3 k3 cp ct np nt : Nat) (r : Value) (ks : List (List Int)) (id : Int) (w : World) (hn : n = ks.length) (hm : ms = (layI ks).length) (hk : Keys w w.heap.size A ks) (hS : Ints w w.heap.size S (layI ks)) (hO : OkS ks)
    (hnv : nv = V.length) (hv : Rd w ⟨V, N, M⟩ Av cv D k2 E k3) (h2 : n2 = N.length) (h3 : n3 = M.length) (hC : Cl R V) (hlv : V.length ≤ 1000000) (hp : np = V.length) (ht : nt = V.length) (hA : allV ks V.length = true) :
    Calls Tryz.prog 30 #[.agg #[.slice A n c, .slice S ms d], .agg #[r, .slice Av nv cv, .slice D n2 k2, .slice E n3 k3, .slice Pa np cp, .slice Ta nt ct], .int .i64 id] w fun e w' => e = .returned (.int .i64 (repV ks V id)) ∧ Q w w' := by
  subst hn hm hnv h2 h3 hp ht
  have q0 := ((Q.refl w).alloc (Obj.cells #[Value.slice A ks.length c, Value.slice S (layI ks).length d] 26)).alloc (Obj.cells #[r, Value.slice Av V.length cv, .slice D N.length k2, .slice E M.length k3, .slice Pa V.length cp, .slice Ta V.length ct] 31)
  have HB := Lib.hid ((BoxT.new w (Value.slice A ks.length c) (Value.slice S (layI ks).length d) 26).q ((Q.refl _).alloc (Obj.cells #[r, Value.slice Av V.length cv, .slice D N.length k2, .slice E M.length k3, .slice Pa V.length cp, .slice Ta V.length ct] 31)))
  have X := Box6.new (w.alloc (Obj.cells #[Value.slice A ks.length c, Value.slice S (layI ks).length d] 26)) r (Value.slice Av V.length cv) (.slice D N.length k2) (.slice E M.length k3) (.slice Pa V.length cp) (.slice Ta V.length ct) 31
  rw [World.size_alloc] at X
  have HG := Lib.hid X
  have Hk := Lib.hid ((hk.q (Nat.le_refl _) q0).more q0.size)
  have HS := Lib.hid ((hS.q (Nat.le_refl _) q0).more q0.size)
  have Hv := Lib.hid (hv.q q0)
  have HO := Lib.hid hO
  have HP : Hid (repV ks V id = if numV ks V.length id < 0 then id else atV ks (fst V (numV ks V.length id).toNat : Int)) := rfl
  have HL := fun h => numV_lt (ks := ks) (m := V.length) (id := id) h
  have HW : Hid (varN ks V.length id = if 0 ≤ numV ks V.length id then numV ks V.length id else 0) := rfl
  have HA : Hid (∀ v : Nat, v < V.length → 0 ≤ atV ks v) := Lib.hid (of_decide_eq_true hA)
  clear hk hS hv X hO hA
  go_enter Tryz.func30, Tryz.ntmps30
  go_upto_region 1 with fail
  generalize (w.alloc (Obj.cells #[Value.slice A ks.length c, Value.slice S (layI ks).length d] 26)).alloc (Obj.cells #[r, Value.slice Av V.length cv, .slice D N.length k2, .slice E M.length k3, .slice Pa V.length cp, .slice Ta V.length ct] 31) = W0 at *
  have b0 := HB.out.c0
  have b1' := HB.out.c1
  have g0 := HG.out.c0
  have g1 := HG.out.c1
  have g2 := HG.out.c2
  have g3 := HG.out.c3
  have g4 := HG.out.c4
  have g5 := HG.out.c5
  have C := Lib.hid (variable12 A S Av Pa Ta _ c (layI ks).length d V.length cv cp ct r (.slice D N.length k2) (.slice E M.length k3) ks id W0 rfl Hk.out HO.out)
  go_upto_region 2 with (go_at_call 67; refine C.out.mono ?_; rintro e w2 ⟨rfl, q1⟩)
  generalize varN ks V.length id = y at *
  generalize numV ks V.length id = x at *
  clear b0 b1' g0 g1 g2 g3 g4 g5 C
  by_cases hx : x < 0
  · have d0 : decide (0 ≤ x) = false := decide_eq_false (by omega)
    have HF : Hid (repV ks V id = id) := by unfold Hid; rw [HP.out, if_pos hx]
    rw [d0]
    clear hx HL d0
    go_wp2_with fail
    go_ret
    exact ⟨by rw [HF.out]; rfl, q0.trans q1⟩
  · have d0 : decide (0 ≤ x) = true := decide_eq_true (by omega)
    have hy : y = x := by rw [HW.out, if_pos (by omega)]
    have HF : Hid (repV ks V id = atV ks (fst V x.toNat : Int)) := by unfold Hid; rw [HP.out, if_neg hx]
    have hm := HL (by omega)
    subst hy
    obtain ⟨z, rfl⟩ : ∃ z : Nat, y = (z : Int) := ⟨y.toNat, by omega⟩
    rw [Int.toNat_natCast] at HF hm
    rw [d0]
    have hfz := (hC.fst_in z hm).1
    have HF0 := Lib.hid (HA.out _ hfz)
    have HBq := Lib.hid (HB.out.q q1)
    have HGq := Lib.hid (HG.out.q q1)
    have Hkq := Lib.hid ((Hk.out.q (Nat.le_refl _) q1).more q1.size)
    have HSq := Lib.hid ((HS.out.q (Nat.le_refl _) q1).more q1.size)
    have Hvq := Lib.hid (Hv.out.q q1)
    have b0 := HBq.out.c0
    have b1' := HBq.out.c1
    have g1 := HGq.out.c1
    have g2 := HGq.out.c2
    have g3 := HGq.out.c3
    have l0 := HBq.out.lt
    have l1 := HGq.out.lt
    have CF : Hid (∀ W, Q w2 W → Calls Tryz.prog 38 #[.agg #[.slice Av V.length cv, .slice D N.length k2, .slice E M.length k3], .int .i64 (z : Int)] W fun e W' => e = .returned (.int .i64 (fst V z : Int)) ∧ Q W W') := fun W q => find_any R ⟨V, N, M⟩ z Av D E V.length cv N.length k2 M.length k3 W rfl rfl rfl (Hvq.out.q q) hC hm hlv
    have CA : Hid (∀ W, Q w2 W → Calls Tryz.prog 42 #[.agg #[.slice A ks.length c, .slice S (layI ks).length d], .int .i64 (fst V z : Int)] W fun e W' => e = .returned (.int .i64 (atV ks (fst V z : Int))) ∧ Q W W') := fun W q => placeOf12 A S _ c _ d ks _ W rfl rfl ((Hkq.out.q (Nat.le_refl _) q).more q.size) ((HSq.out.q (Nat.le_refl _) q).more q.size) HO.out
    clear hx HL hm hC hlv hfz d0 HW HA HP
    go_upto_region 4 with fail
    go_region_held3 (fun w' => w'.cell? ⟨w.heap.size, 0, none⟩ = some (.slice A ks.length c) ∧ w'.cell? ⟨w.heap.size, 1, none⟩ = some (.slice S (layI ks).length d) ∧ w'.cell? ⟨w.heap.size + 1, 1, none⟩ = some (.slice Av V.length cv) ∧ w'.cell? ⟨w.heap.size + 1, 2, none⟩ = some (.slice D N.length k2) ∧ w'.cell? ⟨w.heap.size + 1, 3, none⟩ = some (.slice E M.length k3))
      (first
        | go_keep
        | exact ⟨(p3.cell (p := ⟨w.heap.size, 0, none⟩) l0).trans b0, (p3.cell (p := ⟨w.heap.size, 1, none⟩) l0).trans b1', (p3.cell (p := ⟨w.heap.size + 1, 1, none⟩) l1).trans g1, (p3.cell (p := ⟨w.heap.size + 1, 2, none⟩) l1).trans g2, (p3.cell (p := ⟨w.heap.size + 1, 3, none⟩) l1).trans g3⟩
        | exact ⟨(p2.cell (p := ⟨w.heap.size, 0, none⟩) l0).trans b0, (p2.cell (p := ⟨w.heap.size, 1, none⟩) l0).trans b1', (p2.cell (p := ⟨w.heap.size + 1, 1, none⟩) l1).trans g1, (p2.cell (p := ⟨w.heap.size + 1, 2, none⟩) l1).trans g2, (p2.cell (p := ⟨w.heap.size + 1, 3, none⟩) l1).trans g3⟩)
      (first
        | (go_at_call 38; (with_reducible refine (CF.out _ (Q.refl w2).drew).mono ?_); rintro e w3 ⟨rfl, q2⟩; have p2 : Q w2 w3 := (Q.refl w2).drew.trans q2)
        | (go_at_call 42; (with_reducible refine (CA.out _ p2).mono ?_); rintro e w4 ⟨rfl, q3⟩; have p3 : Q w2 w4 := p2.trans q3))
    have d5 : decide (0 ≤ atV ks (fst V z : Int)) = true := decide_eq_true HF0.out
    have d6 : decide (atV ks (fst V z : Int) < 0) = false := decide_eq_false (by have := HF0.out; omega)
    generalize atV ks (fst V z : Int) = a at *
    go_wp2_with fail
    go_ret
    exact ⟨by rw [HF.out]; rfl, (q0.trans q1).trans p3⟩
end Go.Proofs.YtjmopbimleoidaaGreat.Ig

namespace Go.Proofs.YtjmopbimleoidaaGreat.Ig
open Go.RowKit Kit Tr Uf
open Go.Proofs.YtjmopbimleoidaaGreat.Hs (Keys Ints layI atI atI_cases Dist few_sum mem_len fewB)
open Go.Proofs.YtjmopbimleoidaaGreat.Tm (Tm Store termAt termAt_at termAt_out ofKey isPl isPl_iff keyOk storeB store_iff mayB standB)
theorem termAt_key {ks : List (List Int)} {i : Nat} {key : List Int} (h : ks[i]? = some key) (h3 : 3 ≤ key.length) : termAt ks (i : Int) = some (ofKey key) := by
  obtain ⟨hi, e⟩ := List.getElem?_eq_some_iff.1 h
  subst e
  exact termAt_at hi h3
theorem okS_of {L : List Sg.Sig} {ks : List (List Int)} (hS : Store L ks) (hl : ks.length ≤ 5000) (hk : ∀ k ∈ ks, k.length ≤ 100000) : OkS ks := by
  refine ⟨hS.dist, hl, hk, fun id t ht h2 => ?_⟩
  cases hp : isPl id ks.length with
  | false => rw [termAt_out hp] at ht; cases ht
  | true =>
    obtain ⟨h0, h4⟩ := (isPl_iff _ _).1 hp
    obtain ⟨i, rfl⟩ := Int.eq_ofNat_of_zero_le h0
    have hi : i < ks.length := by omega
    have hok := hS.ok i ks[i] (List.getElem?_eq_getElem hi)
    by_cases h3 : 3 ≤ ks[i].length
    · rw [termAt_at hi h3] at ht
      injection ht with ht
      subst ht
      unfold keyOk at hok
      simp only [Bool.and_eq_true] at hok
      have hm := hok.1.2
      unfold mayB at hm
      simp only [Bool.and_eq_true] at hm
      have hst := hm.1.1
      unfold standB at hst
      rw [if_pos h2, Bool.and_eq_true] at hst
      exact of_decide_eq_true hst.1
    · rw [Tm.termAt_short hi (by omega)] at ht; cases ht
theorem of12_plain {L : List Sg.Sig} {ks : List (List Int)} {sl R : List Int} {c : Cells} {P T : List (List Int)} (h : of12B L ks sl R c P T = true) : OkS ks ∧ sl = layI ks ∧ (R.length ≤ 1000 ∧ Few c 1000 ∧ P.length ≤ 1000 ∧ T.length ≤ 1000 ∧ (∀ k ∈ P, k.length ≤ 1000) ∧ (∀ k ∈ T, k.length ≤ 1000)) ∧ Cl R c.V ∧ P.length = c.V.length ∧ T.length = c.V.length ∧ rightG R ks c P T = true ∧ allV ks c.V.length = true := by
  obtain ⟨⟨_, hf, hst⟩, h4, h5, h6⟩ := of12_ok h
  have hsum := few_sum hf
  obtain ⟨hS, hsl⟩ := (store_iff _ _ _).1 hst
  have hg := h5
  unfold rightG at hg
  simp only [Bool.and_eq_true, decide_eq_true_eq] at hg
  exact ⟨okS_of hS (by omega) (fun k hk => by have := mem_len hk; omega), hsl, few12_ok h4, cl_of hg.1.1.1.1.1, hg.1.1.2, hg.1.2, h5, h6⟩
end Go.Proofs.YtjmopbimleoidaaGreat.Ig

namespace Go.Proofs.YtjmopbimleoidaaGreat.Rw
open Go.RowKit Kit

/-- a slice value that reads these cells, below block B -/
def Rds (w : World) (B : Nat) (A : Option Addr) (cs : List Value) : Prop := 0 < cs.length → ∃ ad, A = some ad ∧ ad.block < B ∧ ∀ j v, cs[j]? = some v → w.cell? (ad.add j) = some v
theorem add_block (a : Addr) (n : Nat) : (a.add n).block = a.block := by unfold Addr.add; split <;> rfl
theorem add_succ (a : Addr) (n : Nat) : a.add (n + 1) = ⟨(a.add n).block, (a.add n).off + 1, none⟩ := by
  unfold Addr.add
  by_cases h : n = 0 <;> simp [h, Nat.add_assoc]
theorem add_zero_head (g j : Nat) : (⟨g, 0, none⟩ : Addr).add j = ⟨g, j, none⟩ := by
  unfold Addr.add
  by_cases h : j = 0 <;> simp [h]
theorem Rds.keep {w w' : World} {B : Nat} {A : Option Addr} {l : List Value} (h : Rds w B A l) (hb : Below B w w') : Rds w' B A l := fun h0 => by
  obtain ⟨ad, e, hlt, hc⟩ := h h0
  exact ⟨ad, e, hlt, fun i s hs => (hb.cell (by rw [add_block]; exact hlt)).trans (hc i s hs)⟩
theorem Rds.more {w : World} {B B' : Nat} {A : Option Addr} {l : List Value} (h : Rds w B A l) (hB : B ≤ B') : Rds w B' A l := fun h0 => by
  obtain ⟨ad, e, hlt, hc⟩ := h h0
  exact ⟨ad, e, by omega, hc⟩
theorem Rds.q {w w' : World} {A : Option Addr} {l : List Value} (h : Rds w w.heap.size A l) (q : Q w w') : Rds w' w'.heap.size A l := (h.keep q).more q.size
theorem Rds.nil (w : World) (B : Nat) (A : Option Addr) : Rds w B A [] := fun h => absurd h (by simp)

theorem Rds.src {w : World} {B : Nat} {A : Option Addr} {l : List Value} (h : Rds w B A l) : Src w A l := fun h0 => by
  obtain ⟨ad, e, _, hc⟩ := h h0
  exact ⟨ad, e, hc⟩

/-- block g holds these cells, from its head on, and may be written -/
def OwnC (w : World) (g : Nat) (cs : List Value) : Prop := g < w.heap.size ∧ ∀ j v, cs[j]? = some v → w.cell? ⟨g, j, none⟩ = some v ∧ w.frozen? ⟨g, j, none⟩ = false
theorem OwnC.rds {w : World} {g : Nat} {cs : List Value} (h : OwnC w g cs) : Rds w w.heap.size (some ⟨g, 0, none⟩) cs := fun _ => ⟨_, rfl, h.1, fun j v hv => by rw [add_zero_head]; exact (h.2 j v hv).1⟩
theorem OwnC.q {w w' : World} {g : Nat} {cs : List Value} (h : OwnC w g cs) (q : Q w w') : OwnC w' g cs :=
  ⟨Nat.lt_of_lt_of_le h.1 q.size, fun i x hx => ⟨(q.cell (p := ⟨g, i, none⟩) h.1).trans (h.2 i x hx).1, (q.frozen (p := ⟨g, i, none⟩) h.1).trans (h.2 i x hx).2⟩⟩
theorem OwnC.far {w : World} {g : Nat} {cs : List Value} (h : OwnC w g cs) {b i : Nat} (hb : b ≠ g) (u : Value) : OwnC (w.setCell ⟨b, i, none⟩ u) g cs :=
  ⟨by simpa [World.setCell] using h.1, fun j v hv => ⟨(World.cell?_setCell_far _ _ _ _ hb).trans (h.2 j v hv).1, by rw [World.frozen?_setCell]; exact (h.2 j v hv).2⟩⟩
theorem OwnC.grown {w w' : World} {g : Nat} {cs : List Value} {row : Option Nat} (h : OwnC w g cs) (hg : w.grownBy w' row) (hr : row ≠ some g) : OwnC w' g cs := by
  have hb := hg.block g h.1 (fun e => hr e.symm)
  exact ⟨Nat.lt_of_lt_of_le h.1 hg.size, fun j v hv => ⟨(World.cell?_of_block (a := ⟨g, j, none⟩) hb).trans (h.2 j v hv).1, (World.frozen?_of_block (a := ⟨g, j, none⟩) hb).trans (h.2 j v hv).2⟩⟩
theorem OwnC.take {w : World} {g : Nat} {cs : List Value} (h : OwnC w g cs) (n : Nat) : OwnC w g (cs.take n) :=
  ⟨h.1, fun j v hv => h.2 j v (by rw [List.getElem?_take] at hv; split at hv; exact hv; cases hv)⟩
theorem setCell_ne {W : World} {B i j : Nat} {v u : Value} (h : i ≠ j) (hc : W.cell? ⟨B, j, none⟩ = some u) : (W.setCell ⟨B, i, none⟩ v).cell? ⟨B, j, none⟩ = some u := by
  have := World.cell?_setCell_other (w := W) (a := ⟨B, i, none⟩) (b := ⟨B, j, none⟩) (v := v) (by intro e; injection e with _ e; exact h e)
  exact this.trans hc
theorem setCell_eq {W : World} {B i : Nat} {v u : Value} (hc : W.cell? ⟨B, i, none⟩ = some u) : (W.setCell ⟨B, i, none⟩ v).cell? ⟨B, i, none⟩ = some v := World.cell?_setCell_same' _ _ _ (by rw [hc]; rfl)
theorem OwnC.set {w : World} {g : Nat} {cs : List Value} (h : OwnC w g cs) {s : Nat} (hs : s < cs.length) (v : Value) : OwnC (w.setCell ⟨g, s, none⟩ v) g (cs.set s v) := by
  refine ⟨by simp [World.setCell]; exact h.1, fun i x hx => ?_⟩
  rw [World.frozen?_setCell]
  by_cases hi : s = i
  · subst hi
    rw [List.getElem?_set_self hs] at hx
    obtain rfl : v = x := by simpa using hx
    have := h.2 s _ (List.getElem?_eq_getElem hs)
    exact ⟨setCell_eq this.1, this.2⟩
  · rw [List.getElem?_set_ne hi] at hx
    exact ⟨setCell_ne hi (h.2 i x hx).1, (h.2 i x hx).2⟩
theorem OwnC.of_row {w : World} {base g n cap size : Nat} {e : TypeId} {cs : List Value} (h : w.ownsRow base e size (.slice (some ⟨g, 0, none⟩) n cap) n cs) : OwnC w g cs := by
  refine ⟨(h.lt g rfl).2, fun j v hv => ⟨?_, h.frozenAt j⟩⟩
  have := h.cells (g := g) rfl j v hv
  rwa [add_zero_head] at this
theorem setCell_grown (w : World) (g j : Nat) (u : Value) : w.grownBy (w.setCell ⟨g, j, none⟩ u) (some g) :=
  ⟨rfl, rfl, rfl, by simp [World.setCell], fun k _ hk => heap_setCell_other w ⟨g, j, none⟩ k u (fun e => hk (by simp [e]))⟩
theorem grown_trans {a b c : World} {row : Option Nat} (h : a.grownBy b row) (k : b.grownBy c row) : a.grownBy c row :=
  ⟨k.os.trans h.os, k.tape.trans h.tape, k.output.trans h.output, Nat.le_trans h.size k.size, fun i hi hr => (k.block i (Nat.lt_of_lt_of_le hi h.size) hr).trans (h.block i hi hr)⟩
theorem grows_q {a b : World} (q : Q a b) (row : Option Nat) : a.grownBy b row := ⟨q.os, q.tape, q.output, q.size, fun i hi _ => q.block i hi⟩
theorem grown_q {a b : World} {g : Nat} (h : a.grownBy b (some g)) {W : World} (hq : Q W a) (hg : W.heap.size ≤ g) : Q W b := Below.grown hq h hq.size (fun k e => by injection e with e; omega)

theorem row_kept {w w' : World} {base base' : Nat} {e : TypeId} {size : Nat} {v : Value} {n : Nat} {xs : List Value} (h : w.ownsRow base e size v n xs) (q : Q w w') (hb : base' ≤ base) : w'.ownsRow base' e size v n xs := by
  have h2 := h.kept (row := none) (grows_q q none) (by cases v.ownBlock <;> simp)
  obtain ⟨a, b⟩ := h2
  refine ⟨a, ?_⟩
  rcases b with b | ⟨g, cap, cur, r1, r2, r⟩
  · exact .inl b
  · exact .inr ⟨g, cap, cur, r1, Nat.le_trans hb r2, r⟩
theorem src_alloc (w : World) (cs : List Value) (t : TypeId) (fr : Nat × Nat) : Src (w.alloc (.cells cs.toArray t fr)) (some ⟨w.heap.size, 0, none⟩) cs := by
  have := src_block (heap_alloc_new w (.cells cs.toArray t fr))
  simpa using this
theorem own_read {w : World} {base size n : Nat} {e : TypeId} {v : Value} {cs : List Value} (h : w.ownsRow base e size v n cs) : ∃ A c, v = .slice A n c ∧ n ≤ c ∧ Rds w w.heap.size A cs := by
  have h2 := h
  obtain ⟨hl, ⟨rfl, h0⟩ | ⟨g, cap, cur, rfl, hg, hh, hc, _⟩⟩ := h
  · subst h0
    exact ⟨none, 0, rfl, by omega, fun h => by omega⟩
  · exact ⟨_, cap, rfl, hc, (OwnC.of_row h2).rds⟩
theorem q_drewN (w : World) {w' : World} (h : ∃ d, w' = w.drewN d) : Q w w' := by
  obtain ⟨d, rfl⟩ := h
  exact (Q.refl w).drewN d
end Go.Proofs.YtjmopbimleoidaaGreat.Rw

namespace Go.Proofs.YtjmopbimleoidaaGreat.Rw
open Go.ChangeShapes Go.WideShapes Go.RowKit Kit Go.Deep Go.Joins

theorem weights_all {H : Type} {P : Program} {e : TypeId} : ∀ {ds : List (DataW H)} {d : DataW H}, d ∈ ds → ∀ n ∈ d.weights P e, n ∈ DataW.weightsAll P e ds
  | x :: l, d, h, n, hn => by
    simp only [DataW.weightsAll, List.mem_append]
    rcases List.mem_cons.1 h with rfl | h
    · exact .inl hn
    · exact .inr (weights_all h n hn)
section
variable {H : Type} {enc : TypeId × Value → H} {P : Program} {w : World} {base : Nat} {spare : Nat → Bool} {held : Bool}
end
end Go.Proofs.YtjmopbimleoidaaGreat.Rw

namespace Go.Proofs.YtjmopbimleoidaaGreat.Sg
open Go.ChangeShapes Go.WideShapes Go.RowKit Kit Go.Deep Go.Joins
section
variable {H : Type} {enc : TypeId × Value → H} {W : World}
theorem open_sigs_cells10 {fuel : Nat} {v : Value} {y : DataW H × List MemPlace} (hf : DataW.trod enc Tryz.prog W 0 (fun _ => true) true fuel 22 [v] = some y) :
    ∃ A n c l, v = .slice A n c ∧ n = l.length ∧ Row W W.heap.size A l ∧ l.length ≤ maxLen ∧ Sized l ∧ n ≤ c := by
  rcases open_slice_pairs Tryz.underlying22 Tryz.underlying104 (by kernel_rfl) rfl rfl (by kernel_rfl) (by kernel_rfl) hf with ⟨h0, _⟩ | ⟨ad, len', cap', m, n, V0, V1, D0, D1, P0, P1, hcs, _, hl, hm, hmm, _, hi⟩
  · simp only [List.cons.injEq, and_true] at h0
    subst h0
    exact ⟨_, _, _, [], rfl, rfl, fun h => absurd h (by simp), by simp, (fun s hs => by cases hs), Nat.le_refl _⟩
  · simp only [List.cons.injEq, and_true] at hcs
    subst hcs
    obtain ⟨len, hlen'⟩ : ∃ len, len = len' := ⟨_, rfl⟩
    subst hlen'
    have hlm : len ≤ m := by rw [hmm]; split <;> omega
    have each : ∀ i, i < len → ∃ s : Sig, W.cell? (ad.add (i * 2)) = some (.string s.1) ∧ W.cell? (ad.add (i * 2 + 1)) = some (.string s.2) ∧ s.1.size ≤ maxLen ∧ s.2.size ≤ maxLen := fun i hil => by
      obtain ⟨c0, c1, t0, t1⟩ := hi i (by omega)
      obtain ⟨s0, e0, _, z0⟩ := DataW.trod_string Tryz.underlying9 t0
      obtain ⟨s1, e1, _, z1⟩ := DataW.trod_string Tryz.underlying9 t1
      simp only [List.cons.injEq, and_true] at e0 e1
      exact ⟨(s0, s1), by rw [c0, e0], by rw [c1, e1], z0, z1⟩
    obtain ⟨q, hq⟩ := choose_lt each
    refine ⟨_, _, _, (List.range len).map q, rfl, by simp, fun h0 => ⟨ad, rfl, ?_, fun i s hs => ?_⟩, by simp; omega, fun s hs => ?_, hl⟩
    · have := (hq 0 (by simpa using h0)).1
      have := World.block_lt_of_cell? W _ this
      rwa [add_block] at this
    · have hil : i < len := by
        have := (List.getElem?_eq_some_iff.1 hs).1
        simpa using this
      have e : s = q i := by
        rw [List.getElem?_map, List.getElem?_range hil] at hs
        simpa using hs.symm
      subst e
      obtain ⟨c0, c1, _, _⟩ := hq i hil
      rw [add_succ] at c1
      exact ⟨c0, c1⟩
    · simp only [List.mem_map, List.mem_range] at hs
      obtain ⟨i, hil, rfl⟩ := hs
      exact (hq i hil).2.2
end
end Go.Proofs.YtjmopbimleoidaaGreat.Sg
namespace Go.Proofs.YtjmopbimleoidaaGreat.St
open Go.ChangeShapes Go.WideShapes Go.RowKit Kit Rw Go.Deep Go.Joins
open Go.Proofs.YtjmopbimleoidaaGreat.Sg (Sig Row Sized)
open Go.Proofs.YtjmopbimleoidaaGreat.Hs (Keys Ints)
section
variable {H : Type} {enc : TypeId × Value → H} {P : Program} {w : World} {base : Nat} {spare : Nat → Bool} {held : Bool}
set_option maxRecDepth 100000 in
theorem open_two10 {t : TypeId} {f0 f1 : Field} {fuel : Nat} {c0 c1 : Value} {x : DataW H × List MemPlace} (hs : P.underlying t = some (.struct #[f0, f1]))
    (o0 : f0.offset = 0) (k0 : P.cellsOf f0.type = 1) (o1 : f1.offset = 1) (k1 : P.cellsOf f1.type = 1) (h : DataW.trod enc P w base spare held fuel t [c0, c1] = some x) :
    ∃ (y0 y1 : DataW H × List MemPlace) (n : Nat), x.1 = .agg [y0.1, y1.1] ∧ DataW.trod enc P w base spare held n f0.type [c0] = some y0 ∧ DataW.trod enc P w base spare held n f1.type [c1] = some y1 := by
  obtain ⟨xs, n, _, hx, _, hlen, hg⟩ := DataW.trod_struct hs h
  match xs, hlen with
  | [y0, y1], _ => exact ⟨y0, y1, n, by rw [hx]; rfl, by simpa [o0, k0] using hg 0 f0 rfl, by simpa [o1, k1] using hg 1 f1 rfl⟩
end
section
variable {H : Type} {enc : TypeId × Value → H} {W : World} {base : Nat}
end
end Go.Proofs.YtjmopbimleoidaaGreat.St

namespace Go.Proofs.YtjmopbimleoidaaGreat.Ig
open Go.ChangeShapes Go.WideShapes Go.RowKit Kit Go.Deep Go.Joins
open Go.Proofs.YtjmopbimleoidaaGreat.Sg (Sig Row Sized)
open Go.Proofs.YtjmopbimleoidaaGreat.Hs (Keys Ints)
open Go.Proofs.YtjmopbimleoidaaGreat.Tr (cellsI cellsP Cells Rd Few)
section
variable {H : Type} {enc : TypeId × Value → H} {P : Program} {w : World} {base : Nat} {spare : Nat → Bool} {held : Bool}
set_option maxRecDepth 100000 in
theorem open_nest12_5 {r : Go.Reach} {b0 : Nat} {t : TypeId} {f0 f1 f2 f3 f4 : Field} {v : Value} {d : DataW H} {p : List MemPlace} (hs : P.underlying t = some (.struct #[f0, f1, f2, f3, f4])) (hC : P.cellsOf t = 11)
    (o0 : f0.offset = 0) (k0 : P.cellsOf f0.type = 1) (o1 : f1.offset = 1) (k1 : P.cellsOf f1.type = 2) (o2 : f2.offset = 3) (k2 : P.cellsOf f2.type = 6) (o3 : f3.offset = 9) (k3 : P.cellsOf f3.type = 1) (o4 : f4.offset = 10) (k4 : P.cellsOf f4.type = 1)
    (hv : Value.okWide P w r b0 t v) (h : DataW.Trod enc P w base spare held t v d p) :
    ∃ (c0 c1 c2 c3 c4 c5 c6 c7 c8 c9 c10 : Value) (y0 y1 y2 y3 y4 : DataW H × List MemPlace) (n : Nat), v = .agg #[c0, c1, c2, c3, c4, c5, c6, c7, c8, c9, c10] ∧ d = .agg [y0.1, y1.1, y2.1, y3.1, y4.1] ∧ DataW.trod enc P w base spare held n f0.type [c0] = some y0 ∧ DataW.trod enc P w base spare held n f1.type [c1, c2] = some y1 ∧ DataW.trod enc P w base spare held n f2.type [c3, c4, c5, c6, c7, c8] = some y2 ∧ DataW.trod enc P w base spare held n f3.type [c9] = some y3 ∧ DataW.trod enc P w base spare held n f4.type [c10] = some y4 := by
  obtain ⟨cs, rfl, hsz⟩ := okWide_struct hs hv
  obtain ⟨l⟩ := cs
  match l, hsz.trans hC with
  | [c0, c1, c2, c3, c4, c5, c6, c7, c8, c9, c10], _ =>
    obtain ⟨fuel, hf⟩ := h
    obtain ⟨xs, n, _, hx, _, hlen, hg⟩ := DataW.trod_struct hs hf
    match xs, hlen with
    | [y0, y1, y2, y3, y4], _ =>
      simp only [Prod.mk.injEq] at hx
      exact ⟨c0, c1, c2, c3, c4, c5, c6, c7, c8, c9, c10, y0, y1, y2, y3, y4, n, rfl, by simpa using hx.1, by simpa [Value.cells, o0, k0] using hg 0 f0 rfl, by simpa [Value.cells, o1, k1] using hg 1 f1 rfl, by simpa [Value.cells, o2, k2] using hg 2 f2 rfl, by simpa [Value.cells, o3, k3] using hg 3 f3 rfl, by simpa [Value.cells, o4, k4] using hg 4 f4 rfl⟩
set_option maxRecDepth 100000 in
theorem open_graph4 {t : TypeId} {f0 f1 f2 f3 : Field} {fuel : Nat} {c0 c1 c2 c3 c4 c5 : Value} {x : DataW H × List MemPlace} (hs : P.underlying t = some (.struct #[f0, f1, f2, f3]))
    (o0 : f0.offset = 0) (k0 : P.cellsOf f0.type = 1) (o1 : f1.offset = 1) (k1 : P.cellsOf f1.type = 3) (o2 : f2.offset = 4) (k2 : P.cellsOf f2.type = 1) (o3 : f3.offset = 5) (k3 : P.cellsOf f3.type = 1) (h : DataW.trod enc P w base spare held fuel t [c0, c1, c2, c3, c4, c5] = some x) :
    ∃ (y0 y1 y2 y3 : DataW H × List MemPlace) (n : Nat), x.1 = .agg [y0.1, y1.1, y2.1, y3.1] ∧ DataW.trod enc P w base spare held n f0.type [c0] = some y0 ∧ DataW.trod enc P w base spare held n f1.type [c1, c2, c3] = some y1 ∧ DataW.trod enc P w base spare held n f2.type [c4] = some y2 ∧ DataW.trod enc P w base spare held n f3.type [c5] = some y3 := by
  obtain ⟨xs, n, _, hx, _, hlen, hg⟩ := DataW.trod_struct hs h
  match xs, hlen with
  | [y0, y1, y2, y3], _ => exact ⟨y0, y1, y2, y3, n, by rw [hx]; rfl, by simpa [o0, k0] using hg 0 f0 rfl, by simpa [o1, k1] using hg 1 f1 rfl, by simpa [o2, k2] using hg 2 f2 rfl, by simpa [o3, k3] using hg 3 f3 rfl⟩
set_option maxRecDepth 100000 in
theorem open_cells12 {t : TypeId} {f0 f1 f2 : Field} {fuel : Nat} {c0 c1 c2 : Value} {x : DataW H × List MemPlace} (hs : P.underlying t = some (.struct #[f0, f1, f2]))
    (o0 : f0.offset = 0) (k0 : P.cellsOf f0.type = 1) (o1 : f1.offset = 1) (k1 : P.cellsOf f1.type = 1) (o2 : f2.offset = 2) (k2 : P.cellsOf f2.type = 1) (h : DataW.trod enc P w base spare held fuel t [c0, c1, c2] = some x) :
    ∃ (y0 y1 y2 : DataW H × List MemPlace) (n : Nat), x.1 = .agg [y0.1, y1.1, y2.1] ∧ DataW.trod enc P w base spare held n f0.type [c0] = some y0 ∧ DataW.trod enc P w base spare held n f1.type [c1] = some y1 ∧ DataW.trod enc P w base spare held n f2.type [c2] = some y2 := by
  obtain ⟨xs, n, _, hx, _, hlen, hg⟩ := DataW.trod_struct hs h
  match xs, hlen with
  | [y0, y1, y2], _ => exact ⟨y0, y1, y2, n, by rw [hx]; rfl, by simpa [o0, k0] using hg 0 f0 rfl, by simpa [o1, k1] using hg 1 f1 rfl, by simpa [o2, k2] using hg 2 f2 rfl⟩
end
section
variable {H : Type} {enc : TypeId × Value → H} {W : World}
/-- a graph, read -/
structure GArg (W : World) (R : List Int) (c : Cells) (P T : List (List Int)) (F A D E Pa Ta : Option Addr) (k1 k2 k3 : Nat) : Prop where
  r : Tr.Rds W W.heap.size F (cellsI R)
  u : Rd W c A k1 D k2 E k3
  p : Keys W W.heap.size Pa P
  t : Keys W W.heap.size Ta T
  lR : R.length ≤ 1152921504606846976
  lU : Few c 1152921504606846976
  lP : P.length ≤ 1152921504606846976
  lT : T.length ≤ 1152921504606846976
  sP : ∀ k ∈ P, k.length ≤ 1152921504606846976
  sT : ∀ k ∈ T, k.length ≤ 1152921504606846976
set_option maxRecDepth 100000 in
theorem open_graph {fuel : Nat} {c0 c1 c2 c3 c4 c5 : Value} {x : DataW H × List MemPlace} (h : DataW.trod enc Tryz.prog W 0 (fun _ => true) true fuel 31 [c0, c1, c2, c3, c4, c5] = some x) (hz : ∀ n ∈ x.1.weights Tryz.prog 31, n ≤ reachBytes) :
    ∃ R c P T F A D E Pa Ta cr k1 k2 k3 kp kt, c0 = .slice F (List.length R) cr ∧ c1 = .slice A (List.length (Cells.V c)) k1 ∧ c2 = .slice D (List.length (Cells.N c)) k2 ∧ c3 = .slice E (List.length (Cells.M c)) k3 ∧ c4 = .slice Pa (List.length P) kp ∧ c5 = .slice Ta (List.length T) kt ∧ GArg W R c P T F A D E Pa Ta k1 k2 k3 := by
  obtain ⟨y0, y1, y2, y3, n, hx, g0, g1, g2, g3⟩ := open_graph4 Tryz.underlying31 rfl (by kernel_rfl) rfl (by kernel_rfl) rfl (by kernel_rfl) rfl (by kernel_rfl) h
  obtain ⟨z0, z1, z2, m, hy, u0, u1, u2⟩ := open_cells12 Tryz.underlying29 rfl (by kernel_rfl) rfl (by kernel_rfl) rfl (by kernel_rfl) g1
  have hw : DataW.weights Tryz.prog 31 (.agg [y0.1, y1.1, y2.1, y3.1]) = y0.1.weights Tryz.prog 24 ++ (y1.1.weights Tryz.prog 29 ++ (y2.1.weights Tryz.prog 23 ++ (y3.1.weights Tryz.prog 23 ++ []))) := by
    simp [DataW.weights, Tryz.underlying31, DataW.weightsEach]
  rw [hx, hw, hy] at hz
  obtain ⟨F, nr, cr, R, e0, h0, _, r0, l0⟩ := Tr.open_ints_cells g0 (fun n hn => hz n (by simp [hn]))
  obtain ⟨c, A, n1, k1, D, n2, k2, E, n3, k3, e1, e2, e3, h1, h2, h3, hu, hf⟩ := Tr.open_cells3 u0 u1 u2 (fun n hn => hz n (by simp [hn]))
  obtain ⟨Pa, np, kp, P, e4, h4, p0, lP, sP⟩ := Hs.open_rows_cells g2 (fun n hn => hz n (by simp [hn]))
  obtain ⟨Ta, nt, kt, T, e5, h5, t0, lT, sT⟩ := Hs.open_rows_cells g3 (fun n hn => hz n (by simp [hn]))
  subst h0 h1 h2 h3 h4 h5
  exact ⟨R, c, P, T, F, A, D, E, Pa, Ta, cr, k1, k2, k3, kp, kt, e0, e1, e2, e3, e4, e5, r0, hu, p0, t0, l0, hf, lP, lT, sP, sT⟩
end
end Go.Proofs.YtjmopbimleoidaaGreat.Ig

namespace Go.Proofs.YtjmopbimleoidaaGreat.Ig
open Go.ChangeShapes Go.WideShapes Go.RowKit Kit Go.Deep Go.Joins
open Go.Proofs.YtjmopbimleoidaaGreat.Sg (Sig Row Sized)
open Go.Proofs.YtjmopbimleoidaaGreat.Hs (Keys Ints)
open Go.Proofs.YtjmopbimleoidaaGreat.Tr (cellsI cellsP Cells Rd Few)
section
variable {H : Type} {enc : TypeId × Value → H} {W : World} {base : Nat}
set_option maxRecDepth 100000 in
theorem open_IfgOnesIn {v : Value} {d : DataW H} {p : List MemPlace} (hv : Value.okWide Tryz.prog W .any base 33 v) (h : DataW.Trod enc Tryz.prog W 0 (fun _ => true) true 33 v d p) (hz : ∀ n ∈ d.weights Tryz.prog 33, n ≤ reachBytes) :
    ∃ (L0 A S F Av D E Pa Ta : Option Addr) (nl cl n ca m d cr k1 k2 k3 kp kt : Nat) (l : List Sig) (ks : List (List Int)) (sl : List Int) (R : List Int) (c : Cells) (P T : List (List Int)) (x0 : Int) (x1 : Int), v = .agg #[.slice L0 nl cl, .slice A n ca, .slice S m d, .slice F (List.length R) cr, .slice Av (List.length (Cells.V c)) k1, .slice D (List.length (Cells.N c)) k2, .slice E (List.length (Cells.M c)) k3, .slice Pa (List.length P) kp, .slice Ta (List.length T) kt, .int .i64 x0, .int .i64 x1] ∧ nl = l.length ∧ Row W W.heap.size L0 l ∧ l.length ≤ maxLen ∧ Sized l ∧ n = ks.length ∧ m = sl.length ∧ Keys W W.heap.size A ks ∧ Ints W W.heap.size S sl ∧ ks.length ≤ 1152921504606846976 ∧ (∀ k ∈ ks, k.length ≤ 1152921504606846976) ∧ sl.length ≤ 1152921504606846976 ∧ GArg W R c P T F Av D E Pa Ta k1 k2 k3 := by
  obtain ⟨c0, c1, c2, c3, c4, c5, c6, c7, c8, c9, c10, y0, y1, y2, y3, y4, n, rfl, rfl, g0, g1, g2, g3, g4⟩ := open_nest12_5 Tryz.underlying33 (by kernel_rfl) rfl (by kernel_rfl) rfl (by kernel_rfl) rfl (by kernel_rfl) rfl (by kernel_rfl) rfl (by kernel_rfl) hv h
  obtain ⟨z0, z1, _, hy, t0, t1⟩ := Go.Proofs.YtjmopbimleoidaaGreat.St.open_two10 Tryz.underlying26 rfl (by kernel_rfl) rfl (by kernel_rfl) g1
  have hw : DataW.weights Tryz.prog 33 (.agg [y0.1, y1.1, y2.1, y3.1, y4.1]) = y0.1.weights Tryz.prog 22 ++ (y1.1.weights Tryz.prog 26 ++ (y2.1.weights Tryz.prog 31 ++ (y3.1.weights Tryz.prog 3 ++ (y4.1.weights Tryz.prog 3 ++ ([]))))) := by
    simp [DataW.weights, Tryz.underlying33, DataW.weightsEach]
  have hw1 : DataW.weights Tryz.prog 26 (.agg [z0.1, z1.1]) = z0.1.weights Tryz.prog 23 ++ (z1.1.weights Tryz.prog 24 ++ []) := by
    simp [DataW.weights, Tryz.underlying26, DataW.weightsEach]
  rw [hw, hy, hw1] at hz
  obtain ⟨R0, nl, cl, L, rfl, a1, a2, a3, a4, _⟩ := Sg.open_sigs_cells10 g0
  obtain ⟨A, n', c, ks, rfl, hn, hk, hl, hs⟩ := Hs.open_rows_cells t0 (fun n hn => hz n (by simp [hn]))
  obtain ⟨S, m, e, sl, rfl, hm, _, hS, hsl⟩ := Hs.open_row_cells t1 (fun n hn => hz n (by simp [hn]))
  obtain ⟨R, cc, P, T, F, Av, D, E, Pa, Ta, cr, k1, k2, k3, kp, kt, rfl, rfl, rfl, rfl, rfl, rfl, hG⟩ := open_graph g2 (fun n hn => hz n (by simp [hn]))
  obtain ⟨u0, e0, _, w0⟩ := DataW.trod_int Tryz.underlying3 g3
  simp only [List.cons.injEq, and_true] at e0
  subst e0
  obtain ⟨u1, e1, _, w1⟩ := DataW.trod_int Tryz.underlying3 g4
  simp only [List.cons.injEq, and_true] at e1
  subst e1
  exact ⟨R0, A, S, F, Av, D, E, Pa, Ta, nl, cl, n', c, m, e, cr, k1, k2, k3, kp, kt, L, ks, sl, R, cc, P, T, u0, u1, rfl, a1, a2, a3, a4, hn, hm, hk, hS, hl, hs, hsl, hG⟩
set_option maxRecDepth 100000 in
theorem open_IfgJoinsIn {v : Value} {d : DataW H} {p : List MemPlace} (hv : Value.okWide Tryz.prog W .any base 42 v) (h : DataW.Trod enc Tryz.prog W 0 (fun _ => true) true 42 v d p) (hz : ∀ n ∈ d.weights Tryz.prog 42, n ≤ reachBytes) :
    ∃ (L0 A S F Av D E Pa Ta : Option Addr) (nl cl n ca m d cr k1 k2 k3 kp kt : Nat) (l : List Sig) (ks : List (List Int)) (sl : List Int) (R : List Int) (c : Cells) (P T : List (List Int)) (x0 : Int) (x1 : Int), v = .agg #[.slice L0 nl cl, .slice A n ca, .slice S m d, .slice F (List.length R) cr, .slice Av (List.length (Cells.V c)) k1, .slice D (List.length (Cells.N c)) k2, .slice E (List.length (Cells.M c)) k3, .slice Pa (List.length P) kp, .slice Ta (List.length T) kt, .int .i64 x0, .int .i64 x1] ∧ nl = l.length ∧ Row W W.heap.size L0 l ∧ l.length ≤ maxLen ∧ Sized l ∧ n = ks.length ∧ m = sl.length ∧ Keys W W.heap.size A ks ∧ Ints W W.heap.size S sl ∧ ks.length ≤ 1152921504606846976 ∧ (∀ k ∈ ks, k.length ≤ 1152921504606846976) ∧ sl.length ≤ 1152921504606846976 ∧ GArg W R c P T F Av D E Pa Ta k1 k2 k3 := by
  obtain ⟨c0, c1, c2, c3, c4, c5, c6, c7, c8, c9, c10, y0, y1, y2, y3, y4, n, rfl, rfl, g0, g1, g2, g3, g4⟩ := open_nest12_5 Tryz.underlying42 (by kernel_rfl) rfl (by kernel_rfl) rfl (by kernel_rfl) rfl (by kernel_rfl) rfl (by kernel_rfl) rfl (by kernel_rfl) hv h
  obtain ⟨z0, z1, _, hy, t0, t1⟩ := Go.Proofs.YtjmopbimleoidaaGreat.St.open_two10 Tryz.underlying26 rfl (by kernel_rfl) rfl (by kernel_rfl) g1
  have hw : DataW.weights Tryz.prog 42 (.agg [y0.1, y1.1, y2.1, y3.1, y4.1]) = y0.1.weights Tryz.prog 22 ++ (y1.1.weights Tryz.prog 26 ++ (y2.1.weights Tryz.prog 31 ++ (y3.1.weights Tryz.prog 3 ++ (y4.1.weights Tryz.prog 3 ++ ([]))))) := by
    simp [DataW.weights, Tryz.underlying42, DataW.weightsEach]
  have hw1 : DataW.weights Tryz.prog 26 (.agg [z0.1, z1.1]) = z0.1.weights Tryz.prog 23 ++ (z1.1.weights Tryz.prog 24 ++ []) := by
    simp [DataW.weights, Tryz.underlying26, DataW.weightsEach]
  rw [hw, hy, hw1] at hz
  obtain ⟨R0, nl, cl, L, rfl, a1, a2, a3, a4, _⟩ := Sg.open_sigs_cells10 g0
  obtain ⟨A, n', c, ks, rfl, hn, hk, hl, hs⟩ := Hs.open_rows_cells t0 (fun n hn => hz n (by simp [hn]))
  obtain ⟨S, m, e, sl, rfl, hm, _, hS, hsl⟩ := Hs.open_row_cells t1 (fun n hn => hz n (by simp [hn]))
  obtain ⟨R, cc, P, T, F, Av, D, E, Pa, Ta, cr, k1, k2, k3, kp, kt, rfl, rfl, rfl, rfl, rfl, rfl, hG⟩ := open_graph g2 (fun n hn => hz n (by simp [hn]))
  obtain ⟨u0, e0, _, w0⟩ := DataW.trod_int Tryz.underlying3 g3
  simp only [List.cons.injEq, and_true] at e0
  subst e0
  obtain ⟨u1, e1, _, w1⟩ := DataW.trod_int Tryz.underlying3 g4
  simp only [List.cons.injEq, and_true] at e1
  subst e1
  exact ⟨R0, A, S, F, Av, D, E, Pa, Ta, nl, cl, n', c, m, e, cr, k1, k2, k3, kp, kt, L, ks, sl, R, cc, P, T, u0, u1, rfl, a1, a2, a3, a4, hn, hm, hk, hS, hl, hs, hsl, hG⟩
end
end Go.Proofs.YtjmopbimleoidaaGreat.Ig

namespace Go.Proofs.YtjmopbimleoidaaGreat.Ig
open Go.RowKit Kit Tr Uf
open Go.Proofs.YtjmopbimleoidaaGreat.Hs (Keys Ints BoxT)
/-- a copy: in a block of its own -/
def CopyR (E : TypeId) (size n : Nat) (cs : List Value) (w : World) (e : Ending) (w' : World) : Prop :=
  ∃ g, e = .returned (.slice (some ⟨g, 0, none⟩) n n) ∧ w'.ownsRow w.heap.size E size (.slice (some ⟨g, 0, none⟩) n n) n cs ∧ Q w w'

set_option maxRecDepth 100000 in
set_option maxHeartbeats 1000000 in
theorem copyI12 (A : Option Addr) (n c : Nat) (l : List Int) (w : World) (hn : n = l.length) (hr : Tr.Rds w w.heap.size A (cellsI l)) (hl : l.length ≤ 1000000) :
    Calls Tryz.prog 80 #[.slice A n c] w (CopyR 3 1 l.length (cellsI l) w) := by
  subst hn
  obtain ⟨i0, hi, hz0, hz1, hz2⟩ := info_parts Tr.intInfo
  have hmk : ∀ u : World, (Instr.makeSlice 24 (.int .i64 (l.length : Int)) (.int .i64 (l.length : Int))).run Tryz.prog u =
      .ok (.slice (some ⟨u.heap.size, 0, none⟩) l.length l.length) (u.alloc (.cells (madeCells #[.int .i64 0] l.length) 3)) := fun u => by
    have h := run_make (P := Tryz.prog) u 24 3 i0 _ Tryz.underlying24 hi hz0 .i64 .i64 (l.length : Int) (l.length : Int) (by omega) (by omega) (by rw [hz2]; omega) (by omega)
    have e2 : ((l.length : Int)).toNat = l.length := by omega
    rw [e2, hz1, Nat.mul_one] at h
    exact h
  have hsz : (Tryz.prog.info? 3).map (·.size) = some 1 := by rw [hi]; simp [hz1]
  have q1 := (Q.refl w).alloc (Obj.cells (madeCells #[.int .i64 0] l.length) 3)
  have hr' := hr.q q1
  have hlen : (cellsI l).length = l.length * 1 := by simp [cellsI_len]
  obtain ⟨w2, hcp, hg2, hgr⟩ := run_copy_all (P := Tryz.prog) (w.alloc (Obj.cells (madeCells #[.int .i64 0] l.length) 3))
    24 24 3 3 1 w.heap.size l.length l.length A c _ 3 (cellsI l) Tryz.underlying24 hsz (heap_alloc_new w _) hlen (by omega)
    (fun h0 => by obtain ⟨ad, e, _, hc⟩ := hr' h0; exact ⟨ad, e, hc⟩) (by rw [hlen, size_madeCells]; omega) (cellsI_one l)
  clear hsz hi hz0 hz1 hz2 hr'
  have q2 : Q w w2 := q1.grown hgr (by simp) (by simp)
  have own2 : Hid (w2.ownsRow w.heap.size 3 1 (.slice (some ⟨w.heap.size, 0, none⟩) l.length l.length) l.length (cellsI l)) :=
    ⟨hlen, .inr ⟨_, _, _, rfl, by omega, hg2, by omega, by unfold maxLen; omega, by simp [hlen, size_madeCells], by rw [← hlen]; simp⟩⟩
  clear hg2 hgr hr hlen q1
  go_enter Tryz.func80, Tryz.ntmps80
  go_wp2_with fail
  go_ret
  exact ⟨w.heap.size, rfl, own2.out, q2⟩

set_option maxRecDepth 100000 in
set_option maxHeartbeats 1000000 in
theorem copyP12 (A : Option Addr) (n c : Nat) (l : List Note) (w : World) (hn : n = l.length) (hr : Tr.Rds w w.heap.size A (cellsP l)) (hl : l.length ≤ 1000000) :
    Calls Tryz.prog 81 #[.slice A n c] w (CopyR 113 2 l.length (cellsP l) w) := by
  subst hn
  obtain ⟨i0, hi, hz0, hz1, hz2⟩ := info_parts Tr.noteInfo
  have hmk : ∀ u : World, (Instr.makeSlice 27 (.int .i64 (l.length : Int)) (.int .i64 (l.length : Int))).run Tryz.prog u =
      .ok (.slice (some ⟨u.heap.size, 0, none⟩) l.length l.length) (u.alloc (.cells (madeCells #[.int .i64 0, .int .i64 0] (l.length * 2)) 113)) := fun u => by
    have h := run_make (P := Tryz.prog) u 27 113 i0 _ Tryz.underlying27 hi hz0 .i64 .i64 (l.length : Int) (l.length : Int) (by omega) (by omega) (by rw [hz2]; omega) (by omega)
    have e2 : ((l.length : Int)).toNat = l.length := by omega
    rw [e2, hz1] at h
    exact h
  have hsz : (Tryz.prog.info? 113).map (·.size) = some 2 := by rw [hi]; simp [hz1]
  have q1 := (Q.refl w).alloc (Obj.cells (madeCells #[.int .i64 0, .int .i64 0] (l.length * 2)) 113)
  have hr' := hr.q q1
  have hlen : (cellsP l).length = l.length * 2 := by rw [cellsP_len]
  obtain ⟨w2, hcp, hg2, hgr⟩ := run_copy_all (P := Tryz.prog) (w.alloc (Obj.cells (madeCells #[.int .i64 0, .int .i64 0] (l.length * 2)) 113))
    27 27 3 113 2 w.heap.size l.length l.length A c _ 113 (cellsP l) Tryz.underlying27 hsz (heap_alloc_new w _) hlen (by omega)
    (fun h0 => by obtain ⟨ad, e, _, hc⟩ := hr' h0; exact ⟨ad, e, hc⟩) (by rw [hlen, size_madeCells]; omega) (cellsP_one l)
  clear hsz hi hz0 hz1 hz2 hr'
  have q2 : Q w w2 := q1.grown hgr (by simp) (by simp)
  have own2 : Hid (w2.ownsRow w.heap.size 113 2 (.slice (some ⟨w.heap.size, 0, none⟩) l.length l.length) l.length (cellsP l)) :=
    ⟨hlen, .inr ⟨_, _, _, rfl, by omega, hg2, by omega, by unfold maxLen; omega, by simp [hlen, size_madeCells], by rw [← hlen]; simp⟩⟩
  clear hg2 hgr hr hlen q1
  go_enter Tryz.func81, Tryz.ntmps81
  go_wp2_with fail
  go_ret
  exact ⟨w.heap.size, rfl, own2.out, q2⟩

/-- a row of numbers in a block between two others -/
def RowI (w : World) (g e : Nat) (v : Value) (l : List Int) : Prop := w.ownsRow (g + 1) 3 1 v l.length (cellsI l) ∧ ∀ b, v.ownBlock = some b → b < e
theorem RowI.form {w : World} {g e : Nat} {v : Value} {l : List Int} (h : RowI w g e v l) : ∃ A c, v = .slice A l.length c ∧ l.length ≤ c ∧ (0 < l.length → ∃ ad : Addr, A = some ad ∧ g < ad.block ∧ ad.block < e ∧ ∀ j x, (cellsI l)[j]? = some x → w.cell? (ad.add j) = some x) := by
  obtain ⟨h1, h2⟩ := h
  have h3 := h1
  rcases h1.2 with ⟨rfl, e0⟩ | ⟨G, cap, cur, rfl, hb, hg, hc, _⟩
  · rw [e0] at *
    exact ⟨none, 0, rfl, Nat.le_refl _, fun h => absurd h (by simp)⟩
  · exact ⟨_, cap, rfl, hc, fun _ => ⟨_, rfl, hb, h2 G rfl, fun j x hx => by rw [Tr.add_zero_head]; exact ((OwnC.of_row h3).2 j x hx).1⟩⟩
theorem RowI.q {w w' : World} {g e : Nat} {v : Value} {l : List Int} (h : RowI w g e v l) (q : Q w w') : RowI w' g e v l := ⟨Tr.row_kept h.1 q (Nat.le_refl _), h.2⟩
theorem RowI.keep {w w' : World} {g e B : Nat} {v : Value} {l : List Int} (h : RowI w g e v l) (hg : w.grownBy w' (some B)) (hB : B ≤ g ∨ e ≤ B) : RowI w' g e v l :=
  ⟨h.1.kept hg (.inr (fun e1 => by have := (h.1.lt B e1).1; have := h.2 B e1; omega)), h.2⟩
theorem RowI.more {w : World} {g e e' : Nat} {v : Value} {l : List Int} (h : RowI w g e v l) (he : e ≤ e') : RowI w g e' v l := ⟨h.1, fun b hb => Nat.lt_of_lt_of_le (h.2 b hb) he⟩
theorem RowI.nil (w : World) (g e : Nat) : RowI w g e (.slice none 0 0) [] := ⟨World.ownsRow_nil _ _ _ _, fun b hb => by cases hb⟩
theorem RowI.ints {w : World} {g e : Nat} {v : Value} {l : List Int} (h : RowI w g e v l) {B : Nat} (he : e ≤ B) : ∃ a c, l.length ≤ c ∧ v = .slice a l.length c ∧ Ints w B a l := by
  obtain ⟨A, c, rfl, hc, k⟩ := h.form
  refine ⟨A, c, hc, rfl, fun h0 => ?_⟩
  obtain ⟨ad, e1, h1, h2, h3⟩ := k h0
  exact ⟨ad, e1, Nat.lt_of_lt_of_le h2 he, fun i x hx => h3 i _ (by simp [cellsI, hx])⟩
theorem RowI.own {w : World} {g base e n : Nat} {G : Nat} {c : Nat} {l : List Int} (h : w.ownsRow base 3 1 (.slice (some ⟨G, 0, none⟩) n c) n (cellsI l)) (hn : n = l.length) (hg : g < G) (he : w.heap.size ≤ e) : RowI w g e (.slice (some ⟨G, 0, none⟩) n c) l := by
  subst hn
  have hl := (h.lt G rfl).2
  have hGe : G < e := Nat.lt_of_lt_of_le hl he
  refine ⟨⟨h.1, ?_⟩, fun b hb => by rw [← (Option.some.inj hb : G = b)]; exact hGe⟩
  rcases h.2 with ⟨e0, _⟩ | ⟨G', cap, cur, e0, hb, r⟩
  · cases e0
  · have e1 := e0
    injection e0 with e2 _ e3
    injection e2 with e2
    injection e2 with e2
    exact .inr ⟨G', cap, cur, e1, by omega, r⟩

structure Tab (w : World) (g e : Nat) (ks : List (List Int)) : Prop where
  lt : g < e
  le : e ≤ w.heap.size
  row : ∃ cs : List Value, w.ownsRow g 24 1 (.slice (some ⟨g, 0, none⟩) ks.length ks.length) ks.length cs ∧ ∀ (y : Nat) (l : List Int), ks[y]? = some l → ∃ v, cs[y]? = some v ∧ RowI w g e v l
theorem Tab.q {w w' : World} {g e : Nat} {ks : List (List Int)} (h : Tab w g e ks) (q : Q w w') : Tab w' g e ks := by
  obtain ⟨h0, h1, cs, a, c⟩ := h
  refine ⟨h0, Nat.le_trans h1 q.size, cs, Tr.row_kept a q (Nat.le_refl _), fun y l hy => ?_⟩
  obtain ⟨v, d, k⟩ := c y l hy
  exact ⟨v, d, k.q q⟩
theorem Tab.more {w : World} {g e e' : Nat} {ks : List (List Int)} (h : Tab w g e ks) (he : e ≤ e') (hl : e' ≤ w.heap.size) : Tab w g e' ks := by
  obtain ⟨h0, h1, cs, a, c⟩ := h
  refine ⟨Nat.lt_of_lt_of_le h0 he, hl, cs, a, fun y l hy => ?_⟩
  obtain ⟨v, d, k⟩ := c y l hy
  exact ⟨v, d, k.more he⟩
/-- a store into a block that is none of its own -/
theorem Tab.far {w w' : World} {g e B : Nat} {ks : List (List Int)} (h : Tab w g e ks) (hg : w.grownBy w' (some B)) (hB : B < g ∨ e ≤ B) : Tab w' g e ks := by
  obtain ⟨h0, h1, cs, a, c⟩ := h
  refine ⟨h0, Nat.le_trans h1 hg.size, cs, Tr.row_far a hg (by omega), fun y l hy => ?_⟩
  obtain ⟨v, d, k⟩ := c y l hy
  exact ⟨v, d, k.keep hg (by omega)⟩
theorem Tab.own {w : World} {g e : Nat} {ks : List (List Int)} (h : Tab w g e ks) : ∃ cs : List Value, w.ownsRow g 24 1 (.slice (some ⟨g, 0, none⟩) ks.length ks.length) ks.length cs ∧ OwnC w g cs ∧ cs.length = ks.length ∧ ∀ (y : Nat) (l : List Int), ks[y]? = some l → ∃ v, cs[y]? = some v ∧ RowI w g e v l := by
  obtain ⟨h0, h1, cs, a, c⟩ := h
  exact ⟨cs, a, OwnC.of_row a, by have := a.1; omega, c⟩
theorem Tab.set {w : World} {g e : Nat} {ks : List (List Int)} (h : Tab w g e ks) {y : Nat} (hy : y < ks.length) {v : Value} {l : List Int} (hv : RowI w g e v l) : Tab (w.setCell ⟨g, y, none⟩ v) g e (ks.set y l) := by
  obtain ⟨cs, a, b0, b, c⟩ := h.own
  have hk := setCell_grown w g y v
  refine ⟨h.lt, by simpa [World.setCell] using h.le, cs.set y v, by simpa using (a.stored y v).1, fun z m hz => ?_⟩
  by_cases hzy : y = z
  · subst hzy
    rw [List.getElem?_set_self hy] at hz
    injection hz with hz
    subst hz
    exact ⟨v, List.getElem?_set_self (by omega), hv.keep hk (.inl (Nat.le_refl _))⟩
  · rw [List.getElem?_set_ne hzy] at hz
    obtain ⟨u, d, k⟩ := c z m hz
    exact ⟨u, by rw [List.getElem?_set_ne hzy]; exact d, k.keep hk (.inl (Nat.le_refl _))⟩
theorem Tab.keys {w : World} {g e : Nat} {ks : List (List Int)} (h : Tab w g e ks) : Keys w w.heap.size (some ⟨g, 0, none⟩) ks := fun _ => by
  obtain ⟨cs, _, a, b, c⟩ := h.own
  refine ⟨_, rfl, Nat.lt_of_lt_of_le h.lt h.le, fun i k hi => ?_⟩
  obtain ⟨v, d, r⟩ := c i k hi
  obtain ⟨A, m, hm, rfl, hI⟩ := r.ints h.le
  exact ⟨A, m, hm, by rw [Tr.add_zero_head]; exact (a.2 i _ d).1, hI⟩
theorem Tab.cell {w : World} {g e : Nat} {ks : List (List Int)} (h : Tab w g e ks) {y : Nat} (hy : y < ks.length) : ∃ A c, w.cell? ⟨g, y, none⟩ = some (.slice A ks[y].length c) ∧ w.frozen? ⟨g, y, none⟩ = false ∧ RowI w g e (.slice A ks[y].length c) ks[y] := by
  obtain ⟨cs, _, a, b, c⟩ := h.own
  obtain ⟨v, d, k⟩ := c y _ (List.getElem?_eq_getElem hy)
  obtain ⟨A, m, rfl, _⟩ := k.form
  exact ⟨A, m, (a.2 y _ d).1, (a.2 y _ d).2, k⟩
theorem Tab.made (w : World) (n : Nat) (hn : n ≤ 1000000) : Tab (w.alloc (.cells (madeCells #[.slice none 0 0] n) 24)) w.heap.size (w.heap.size + 1) (List.replicate n []) := by
  refine ⟨Nat.lt_succ_self _, by simp, List.replicate n (.slice none 0 0), ?_, fun y l hy => ?_⟩
  · have := World.ownsRow_lit (e := 24) (size := 1) w (madeCells #[.slice none 0 0] n) n (Nat.le_refl _) (by unfold maxLen; omega) (by rw [size_madeCells]; simp)
    rw [toList_madeCells_one] at this
    simpa using this
  · have hi : y < n := by have := (List.getElem?_eq_some_iff.1 hy).1; simpa using this
    have e : l = [] := by rw [List.getElem?_replicate, if_pos hi] at hy; simpa using hy.symm
    subst e
    exact ⟨.slice none 0 0, by rw [List.getElem?_replicate, if_pos hi], RowI.nil _ _ _⟩
theorem rowInfo : (Tryz.prog.info? 24).map (fun i => (i.zero, i.size, i.bytes)) = some (some (.slice none 0 0), 1, 24) := by kernel_rfl
theorem make_rows12 (n : Nat) (hn : n ≤ 1000000) (u : World) : (Instr.makeSlice 23 (.int .i64 (n : Int)) (.int .i64 (n : Int))).run Tryz.prog u = .ok (.slice (some ⟨u.heap.size, 0, none⟩) n n) (u.alloc (.cells (madeCells #[.slice none 0 0] n) 24)) := by
  obtain ⟨i0, hi, hz0, hz1, hz2⟩ := info_parts rowInfo
  have h := run_make (P := Tryz.prog) u 23 24 i0 _ Tryz.underlying23 hi hz0 .i64 .i64 (n : Int) (n : Int) (by omega) (by omega) (by rw [hz2]; omega) (by omega)
  rw [hz1, Nat.mul_one] at h
  exact h

/-- the rows that are copied already -/
def part (ks : List (List Int)) (k : Nat) : List (List Int) := ks.take k ++ List.replicate (ks.length - k) []
theorem part_len (ks : List (List Int)) {k : Nat} (hk : k ≤ ks.length) : (part ks k).length = ks.length := by simp [part]; omega
theorem part_zero (ks : List (List Int)) : part ks 0 = List.replicate ks.length [] := by simp [part]
theorem part_all (ks : List (List Int)) : part ks ks.length = ks := by simp [part]
theorem part_next {ks : List (List Int)} {k : Nat} (hk : k < ks.length) : (part ks k).set k ks[k] = part ks (k + 1) := by
  apply List.ext_getElem?
  intro i
  unfold part
  rw [List.getElem?_set]
  by_cases h1 : k = i
  · subst h1
    simp [List.getElem?_append, Nat.min_eq_left (Nat.le_of_lt hk), Nat.min_eq_left (Nat.succ_le_of_lt hk)]
    omega
  · rw [if_neg h1]
    by_cases h2 : i < k
    · rw [List.getElem?_append_left (by simp; omega), List.getElem?_append_left (by simp; omega)]
      simp [h2, show i < k + 1 by omega]
    · rw [List.getElem?_append_right (by simp; omega), List.getElem?_append_right (by simp; omega)]
      simp only [List.length_take, List.getElem?_replicate]
      rw [Nat.min_eq_left (Nat.le_of_lt hk), Nat.min_eq_left (Nat.succ_le_of_lt hk)]
      by_cases h3 : i < ks.length
      · rw [if_pos (by omega), if_pos (by omega)]
      · rw [if_neg (by omega), if_neg (by omega)]

set_option maxRecDepth 100000 in
set_option maxHeartbeats 2000000 in
theorem copyRows_any (A : Option Addr) (n c : Nat) (ks : List (List Int)) (w : World) (hn : n = ks.length) (hk : Keys w w.heap.size A ks) (hl : ks.length ≤ 1000000) (hs : ∀ k ∈ ks, k.length ≤ 1000000) :
    Calls Tryz.prog 82 #[.slice A n c] w fun e w' => ∃ g, e = .returned (.slice (some ⟨g, 0, none⟩) ks.length ks.length) ∧ w.heap.size ≤ g ∧ Tab w' g w'.heap.size ks ∧ Q w w' := by
  subst hn
  have hmk := make_rows12 ks.length hl
  have q0 := (Q.refl w).alloc (Obj.cells (madeCells #[.slice none 0 0] ks.length) 24)
  have HT0 := Lib.hid (Tab.made w ks.length hl)
  have HK := Lib.hid ((hk.q (Nat.le_refl _) q0).more q0.size)
  have HK0 := Lib.hid hk
  have HSz : Hid ((w.alloc (Obj.cells (madeCells #[.slice none 0 0] ks.length) 24)).heap.size = w.heap.size + 1) := by unfold Hid; simp
  have HS := Lib.hid hs
  clear hk hs
  go_enter Tryz.func82, Tryz.ntmps82
  go_wp2_with fail
  generalize w.alloc (Obj.cells (madeCells #[.slice none 0 0] ks.length) 24) = W0 at *
  clear hmk
  go_loopw [11] (fun i wr => ∃ k : Nat, k ≤ ks.length ∧ i = .int .i64 k ∧ Hid (Tab wr w.heap.size wr.heap.size (part ks k)) ∧ Hid (Q w wr) ∧ Hid (Keys wr wr.heap.size A ks)) (fun i _ => ks.length - (intOf i).toNat)
  case atStart => exact ⟨0, Nat.zero_le _, rfl, by rw [part_zero]; exact Lib.hid (HT0.out.more (by rw [HSz.out]; exact Nat.le_refl _) (Nat.le_refl _)), Lib.hid q0, HK⟩
  case round =>
    obtain ⟨k, hk, rfl, HT, HQ, HKr⟩ := hrel
    by_cases hlt : k < ks.length
    · obtain ⟨ad, rfl, hb, a, cc, hcc, p0, hi⟩ := HKr.out.at_ hlt
      have CC := Lib.hid (copyI12 a ks[k].length cc ks[k] wr rfl (ints_rds hi) (HS.out _ (List.getElem_mem hlt)))
      have j0 : (0 : Int) ≤ (k : Int) := Int.natCast_nonneg _
      have j1 : (k : Int) < (ks.length : Int) := by omega
      clear hi
      have hw0 : w.heap.size < wr.heap.size := HT.out.lt
      have HTl := Lib.hid (show (part ks k).length = ks.length from part_len ks hk)
      go_wp2_with (go_at_call 80; refine CC.out.mono ?_; rintro e w1 ⟨g1, rfl, own1, q1⟩; have Own1 := Lib.hid own1; clear own1; have HT1 := Lib.hid ((HT.out.q q1).more q1.size (Nat.le_refl _)); obtain ⟨A1, c1, x0, f0, -⟩ := HT1.out.cell (y := k) (by rw [HTl.out]; exact hlt))
      have hg1 := (Own1.out.lt g1 rfl).1
      have HT2 := Lib.hid (HT1.out.set (y := k) (by rw [HTl.out]; exact hlt) (RowI.own Own1.out rfl (by omega) (Nat.le_refl _)))
      have HQ2 := Lib.hid (grown_q (setCell_grown w1 w.heap.size k (.slice (some ⟨g1, 0, none⟩) ks[k].length ks[k].length)) (HQ.out.trans q1) (Nat.le_refl _))
      have HK2 : Hid (Keys (w1.setCell ⟨w.heap.size, k, none⟩ (.slice (some ⟨g1, 0, none⟩) ks[k].length ks[k].length)) (w1.setCell ⟨w.heap.size, k, none⟩ (.slice (some ⟨g1, 0, none⟩) ks[k].length ks[k].length)).heap.size (some ad) ks) := Lib.hid ((HK0.out.q (Nat.le_refl _) HQ2.out).more HQ2.out.size)
      rw [part_next hlt] at HT2
      go_roundw
      case rel => exact ⟨k + 1, by omega, by go_num, by simpa [World.setCell] using HT2, HQ2, HK2⟩
      case measure => simp [intOf]; omega
    · obtain rfl : k = ks.length := by omega
      rw [part_all] at HT
      go_wp2_with fail
      go_ret
      exact ⟨w.heap.size, rfl, Nat.le_refl _, HT.out, HQ.out⟩
end Go.Proofs.YtjmopbimleoidaaGreat.Ig

namespace Go.Proofs.YtjmopbimleoidaaGreat.Ig
open Go.RowKit Kit Tr Uf
open Go.Proofs.YtjmopbimleoidaaGreat.Hs (Keys Ints BoxT)
/-- a graph of the call's own: a block for each row, and for each row of rows -/
structure GOut (w w' : World) (R : List Int) (c : Cells) (P T : List (List Int)) (g0 g1 g2 g3 gp ep gs es : Nat) : Prop where
  r : OwnC w' g0 (cellsI R)
  v : OwnC w' g1 (cellsI c.V)
  n : OwnC w' g2 (cellsP c.N)
  m : OwnC w' g3 (cellsI c.M)
  p : Tab w' gp ep P
  t : Tab w' gs es T
  o0 : w.heap.size ≤ g0
  o1 : g0 < g1
  o2 : g1 < g2
  o3 : g2 < g3
  o4 : g3 < gp
  o5 : ep ≤ gs
  q : Q w w'
theorem GOut.lt {w w' : World} {R : List Int} {c : Cells} {P T : List (List Int)} {g0 g1 g2 g3 gp ep gs es : Nat} (h : GOut w w' R c P T g0 g1 g2 g3 gp ep gs es) : es ≤ w'.heap.size ∧ gp < ep ∧ gs < es := ⟨h.t.le, h.p.lt, h.t.lt⟩
/-- what lies in other blocks counts for nothing -/
theorem GOut.far {w0 w w' w'' : World} {R : List Int} {c : Cells} {P T : List (List Int)} {g0 g1 g2 g3 gp ep gs es B : Nat} (h : GOut w w' R c P T g0 g1 g2 g3 gp ep gs es) (hq : Q w0 w) (hg : w'.grownBy w'' (some B)) (hB : B < w.heap.size) (hB0 : w0.heap.size ≤ B) : GOut w0 w'' R c P T g0 g1 g2 g3 gp ep gs es := by
  obtain ⟨r, v, n, m, p, t, o0, o1, o2, o3, o4, o5, q⟩ := h
  have := p.lt
  refine ⟨r.grown hg ?_, v.grown hg ?_, n.grown hg ?_, m.grown hg ?_, p.far hg (.inl (by omega)), t.far hg (.inl (by omega)), Nat.le_trans hq.size o0, o1, o2, o3, o4, o5, grown_q hg (hq.trans q) hB0⟩
  all_goals (intro e; injection e with e; omega)
theorem GOut.next {w w' w'' : World} {R : List Int} {c : Cells} {P T : List (List Int)} {g0 g1 g2 g3 gp ep gs es : Nat} (h : GOut w w' R c P T g0 g1 g2 g3 gp ep gs es) (hq : Q w' w'') : GOut w w'' R c P T g0 g1 g2 g3 gp ep gs es := by
  obtain ⟨r, v, n, m, p, t, o0, o1, o2, o3, o4, o5, q⟩ := h
  exact ⟨r.q hq, v.q hq, n.q hq, m.q hq, p.q hq, t.q hq, o0, o1, o2, o3, o4, o5, q.trans hq⟩
/-- the answer, as a value -/
def gVal (R : List Int) (c : Cells) (P T : List (List Int)) (g0 g1 g2 g3 gp gs : Nat) : Value := .agg #[.slice (some ⟨g0, 0, none⟩) R.length R.length, .slice (some ⟨g1, 0, none⟩) c.V.length c.V.length, .slice (some ⟨g2, 0, none⟩) c.N.length c.N.length, .slice (some ⟨g3, 0, none⟩) c.M.length c.M.length, .slice (some ⟨gp, 0, none⟩) P.length P.length, .slice (some ⟨gs, 0, none⟩) T.length T.length]
def GPost (R : List Int) (c : Cells) (P T : List (List Int)) (w : World) (e : Ending) (w' : World) : Prop :=
  ∃ g0 g1 g2 g3 gp ep gs es, e = .returned (gVal R c P T g0 g1 g2 g3 gp gs) ∧ GOut w w' R c P T g0 g1 g2 g3 gp ep gs es

theorem gout_close {w W0 w1 w2 w3 w4 w5 w6 w7 : World} {R : List Int} {c : Cells} {P T : List (List Int)} {g0 g1 g2 g3 gp gs : Nat} {t1 t2 t3 t4 : TypeId} {n0 n1 n2 n3 m0 m1 m2 m3 : Nat} (q0 : Q w W0) (hz : W0.heap.size = w.heap.size + 2)
    (q1 : Q W0.drew w1) (q2 : Q w1 w2) (q3 : Q w2 w3) (q4 : Q w3 w4) (q5 : Q w4 w5) (q6 : Q w5 w6)
    (o0 : w1.ownsRow W0.drew.heap.size t1 1 (.slice (some ⟨g0, 0, none⟩) n0 m0) n0 (cellsI R)) (o1 : w2.ownsRow w1.heap.size t2 1 (.slice (some ⟨g1, 0, none⟩) n1 m1) n1 (cellsI c.V)) (o2 : w3.ownsRow w2.heap.size t3 2 (.slice (some ⟨g2, 0, none⟩) n2 m2) n2 (cellsP c.N)) (o3 : w4.ownsRow w3.heap.size t4 1 (.slice (some ⟨g3, 0, none⟩) n3 m3) n3 (cellsI c.M))
    (hp : w4.heap.size ≤ gp) (tp : Tab w5 gp w5.heap.size P) (hs : w5.heap.size ≤ gs) (ts : Tab w6 gs w6.heap.size T) (hg : w6.grownBy w7 (some (w.heap.size + 1))) : GOut w w7 R c P T g0 g1 g2 g3 gp w5.heap.size gs w6.heap.size := by
  have a0 : W0.heap.size ≤ g0 ∧ g0 < w1.heap.size := o0.lt g0 rfl
  have a1 := o1.lt g1 rfl
  have a2 := o2.lt g2 rfl
  have a3 := o3.lt g3 rfl
  have h : GOut W0.drew w6 R c P T g0 g1 g2 g3 gp w5.heap.size gs w6.heap.size :=
    ⟨(OwnC.of_row o0).q (q2.trans (q3.trans (q4.trans (q5.trans q6)))), (OwnC.of_row o1).q (q3.trans (q4.trans (q5.trans q6))), (OwnC.of_row o2).q (q4.trans (q5.trans q6)), (OwnC.of_row o3).q (q5.trans q6), tp.q q6, ts, a0.1, by omega, by omega, by omega, by omega, hs, q1.trans (q2.trans (q3.trans (q4.trans (q5.trans q6))))⟩
  have hz' : W0.drew.heap.size = w.heap.size + 2 := hz
  exact h.far q0.drew hg (by omega) (by omega)

theorem set6_grown (W : World) (B : Nat) (a b c d e f : Value) : W.grownBy ((((((W.setCell ⟨B, 0, none⟩ a).setCell ⟨B, 1, none⟩ b).setCell ⟨B, 2, none⟩ c).setCell ⟨B, 3, none⟩ d).setCell ⟨B, 4, none⟩ e).setCell ⟨B, 5, none⟩ f) (some B) :=
  grown_trans (grown_trans (grown_trans (grown_trans (grown_trans (setCell_grown _ _ _ _) (setCell_grown _ _ _ _)) (setCell_grown _ _ _ _)) (setCell_grown _ _ _ _)) (setCell_grown _ _ _ _)) (setCell_grown _ _ _ _)
/-- a box of six cells that may be written into -/
structure BoxW (W : World) (B : Nat) (a b c d e f : Value) : Prop where
  c : Box6 W B a b c d e f
  f0 : W.frozen? ⟨B, 0, none⟩ = false
  f1 : W.frozen? ⟨B, 1, none⟩ = false
  f2 : W.frozen? ⟨B, 2, none⟩ = false
  f3 : W.frozen? ⟨B, 3, none⟩ = false
  f4 : W.frozen? ⟨B, 4, none⟩ = false
  f5 : W.frozen? ⟨B, 5, none⟩ = false
theorem BoxW.own {W : World} {B : Nat} {a b c d e f : Value} : BoxW W B a b c d e f ↔ OwnC W B [a, b, c, d, e, f] := by
  refine ⟨fun h => ⟨h.c.lt, fun j v hv => ?_⟩, fun h => ?_⟩
  · match j, hv with
    | 0, hv => simp at hv; subst hv; exact ⟨h.c.c0, h.f0⟩
    | 1, hv => simp at hv; subst hv; exact ⟨h.c.c1, h.f1⟩
    | 2, hv => simp at hv; subst hv; exact ⟨h.c.c2, h.f2⟩
    | 3, hv => simp at hv; subst hv; exact ⟨h.c.c3, h.f3⟩
    | 4, hv => simp at hv; subst hv; exact ⟨h.c.c4, h.f4⟩
    | 5, hv => simp at hv; subst hv; exact ⟨h.c.c5, h.f5⟩
    | j + 6, hv => simp at hv
  · have h0 := h.2 0 a rfl
    have h1 := h.2 1 b rfl
    have h2 := h.2 2 c rfl
    have h3 := h.2 3 d rfl
    have h4 := h.2 4 e rfl
    have h5 := h.2 5 f rfl
    exact ⟨⟨h0.1, h1.1, h2.1, h3.1, h4.1, h5.1, h.1⟩, h0.2, h1.2, h2.2, h3.2, h4.2, h5.2⟩
theorem BoxW.new (w : World) (a b c d e f : Value) (t : TypeId) : BoxW (w.alloc (.cells #[a, b, c, d, e, f] t)) w.heap.size a b c d e f :=
  ⟨Box6.new w a b c d e f t, by simp, by simp, by simp, by simp, by simp, by simp⟩
theorem BoxW.q {W W' : World} {B : Nat} {a b c d e f : Value} (h : BoxW W B a b c d e f) (q : Q W W') : BoxW W' B a b c d e f := BoxW.own.2 ((BoxW.own.1 h).q q)
theorem BoxW.grown {W W' : World} {B g : Nat} {a b c d e f : Value} (h : BoxW W B a b c d e f) (hg : W.grownBy W' (some g)) (hne : g ≠ B) : BoxW W' B a b c d e f := BoxW.own.2 ((BoxW.own.1 h).grown hg (by intro e; injection e with e; exact hne e))
theorem BoxW.set {W : World} {B : Nat} {a b c d e f : Value} (h : BoxW W B a b c d e f) (x y z u v t : Value) : BoxW ((((((W.setCell ⟨B, 0, none⟩ x).setCell ⟨B, 1, none⟩ y).setCell ⟨B, 2, none⟩ z).setCell ⟨B, 3, none⟩ u).setCell ⟨B, 4, none⟩ v).setCell ⟨B, 5, none⟩ t) B x y z u v t :=
  BoxW.own.2 ((((((((BoxW.own.1 h).set (s := 0) (by simp) x).set (s := 1) (by simp) y).set (s := 2) (by simp) z).set (s := 3) (by simp) u).set (s := 4) (by simp) v).set (s := 5) (by simp) t))

set_option maxRecDepth 100000 in
set_option maxHeartbeats 4000000 in
theorem copyOf12 (R : List Int) (c : Cells) (P T : List (List Int)) (F A D E Pa Ta : Option Addr) (nr cr n1 k1 n2 k2 n3 k3 np cp nt ct : Nat) (w : World) (hr : nr = R.length) (h1 : n1 = c.V.length) (h2 : n2 = c.N.length) (h3 : n3 = c.M.length) (hp : np = P.length) (ht : nt = T.length)
    (hR : Tr.Rds w w.heap.size F (cellsI R)) (h : Rd w c A k1 D k2 E k3) (hP : Keys w w.heap.size Pa P) (hT : Keys w w.heap.size Ta T)
    (lR : R.length ≤ 1000000) (hf : Few c 1000000) (lP : P.length ≤ 1000000) (lT : T.length ≤ 1000000) (sP : ∀ k ∈ P, k.length ≤ 1000000) (sT : ∀ k ∈ T, k.length ≤ 1000000) :
    Calls Tryz.prog 37 #[.agg #[.slice F nr cr, .slice A n1 k1, .slice D n2 k2, .slice E n3 k3, .slice Pa np cp, .slice Ta nt ct]] w (GPost R c P T w) := by
  subst hr h1 h2 h3 hp ht
  obtain ⟨f1, f2, f3⟩ := hf
  have q0 := ((Q.refl w).alloc (Obj.cells #[Value.slice F R.length cr, Value.slice A c.V.length k1, Value.slice D c.N.length k2, Value.slice E c.M.length k3, Value.slice Pa P.length cp, Value.slice Ta T.length ct] 31)).alloc (Obj.cells #[Value.slice none 0 0, Value.slice none 0 0, Value.slice none 0 0, Value.slice none 0 0, Value.slice none 0 0, Value.slice none 0 0] 31)
  have HB := Lib.hid ((Box6.new w (Value.slice F R.length cr) (Value.slice A c.V.length k1) (Value.slice D c.N.length k2) (Value.slice E c.M.length k3) (Value.slice Pa P.length cp) (Value.slice Ta T.length ct) 31).q ((Q.refl _).alloc (Obj.cells #[Value.slice none 0 0, Value.slice none 0 0, Value.slice none 0 0, Value.slice none 0 0, Value.slice none 0 0, Value.slice none 0 0] 31)))
  have X := BoxW.new (w.alloc (Obj.cells #[Value.slice F R.length cr, Value.slice A c.V.length k1, Value.slice D c.N.length k2, Value.slice E c.M.length k3, Value.slice Pa P.length cp, Value.slice Ta T.length ct] 31)) (Value.slice none 0 0) (Value.slice none 0 0) (Value.slice none 0 0) (Value.slice none 0 0) (Value.slice none 0 0) (Value.slice none 0 0) 31
  rw [World.size_alloc] at X
  have HX := Lib.hid X
  have hz0 : ((w.alloc (Obj.cells #[Value.slice F R.length cr, Value.slice A c.V.length k1, Value.slice D c.N.length k2, Value.slice E c.M.length k3, Value.slice Pa P.length cp, Value.slice Ta T.length ct] 31)).alloc (Obj.cells #[Value.slice none 0 0, Value.slice none 0 0, Value.slice none 0 0, Value.slice none 0 0, Value.slice none 0 0, Value.slice none 0 0] 31)).heap.size = w.heap.size + 2 := by simp
  have HZ := Lib.hid hz0
  have HR := Lib.hid (hR.q q0)
  have HC := Lib.hid (h.q q0)
  have HP := Lib.hid ((hP.q (Nat.le_refl _) q0).more q0.size)
  have HT := Lib.hid ((hT.q (Nat.le_refl _) q0).more q0.size)
  have HQ0 := Lib.hid q0
  clear h X hz0 hR hP hT q0
  go_enter Tryz.func37, Tryz.ntmps37
  go_upto_region 1 with fail
  generalize (w.alloc (Obj.cells #[Value.slice F R.length cr, Value.slice A c.V.length k1, Value.slice D c.N.length k2, Value.slice E c.M.length k3, Value.slice Pa P.length cp, Value.slice Ta T.length ct] 31)).alloc (Obj.cells #[Value.slice none 0 0, Value.slice none 0 0, Value.slice none 0 0, Value.slice none 0 0, Value.slice none 0 0, Value.slice none 0 0] 31) = W0 at *
  have C1 : Hid (∀ W, Q W0 W → Calls Tryz.prog 80 #[.slice F R.length cr] W (CopyR 3 1 R.length (cellsI R) W)) := fun W q => copyI12 F _ cr R W rfl (HR.out.q q) lR
  have C2 : Hid (∀ W, Q W0 W → Calls Tryz.prog 80 #[.slice A c.V.length k1] W (CopyR 3 1 c.V.length (cellsI c.V) W)) := fun W q => copyI12 A _ k1 c.V W rfl (HC.out.v.q q) f1
  have C3 : Hid (∀ W, Q W0 W → Calls Tryz.prog 81 #[.slice D c.N.length k2] W (CopyR 113 2 c.N.length (cellsP c.N) W)) := fun W q => copyP12 D _ k2 c.N W rfl (HC.out.n.q q) f2
  have C4 : Hid (∀ W, Q W0 W → Calls Tryz.prog 80 #[.slice E c.M.length k3] W (CopyR 3 1 c.M.length (cellsI c.M) W)) := fun W q => copyI12 E _ k3 c.M W rfl (HC.out.m.q q) f3
  have C5 : Hid (∀ W, Q W0 W → Calls Tryz.prog 82 #[.slice Pa P.length cp] W fun e w' => ∃ g, e = .returned (.slice (some ⟨g, 0, none⟩) P.length P.length) ∧ W.heap.size ≤ g ∧ Tab w' g w'.heap.size P ∧ Q W w') := fun W q => copyRows_any Pa _ cp P W rfl ((HP.out.q (Nat.le_refl _) q).more q.size) lP sP
  have C6 : Hid (∀ W, Q W0 W → Calls Tryz.prog 82 #[.slice Ta T.length ct] W fun e w' => ∃ g, e = .returned (.slice (some ⟨g, 0, none⟩) T.length T.length) ∧ W.heap.size ≤ g ∧ Tab w' g w'.heap.size T ∧ Q W w') := fun W q => copyRows_any Ta _ ct T W rfl ((HT.out.q (Nat.le_refl _) q).more q.size) lT sT
  have b0 := HB.out.c0
  have b1 := HB.out.c1
  have b2 := HB.out.c2
  have b3 := HB.out.c3
  have b4 := HB.out.c4
  have b5 := HB.out.c5
  have l0 := HB.out.lt
  have AL : Hid (∀ W, Q W0 W → W.cell? ⟨w.heap.size, 0, none⟩ = some (.slice F R.length cr) ∧ W.cell? ⟨w.heap.size, 1, none⟩ = some (.slice A c.V.length k1) ∧ W.cell? ⟨w.heap.size, 2, none⟩ = some (.slice D c.N.length k2) ∧ W.cell? ⟨w.heap.size, 3, none⟩ = some (.slice E c.M.length k3) ∧ W.cell? ⟨w.heap.size, 4, none⟩ = some (.slice Pa P.length cp) ∧ W.cell? ⟨w.heap.size, 5, none⟩ = some (.slice Ta T.length ct)) := fun W q => ⟨(HB.out.q q).c0, (HB.out.q q).c1, (HB.out.q q).c2, (HB.out.q q).c3, (HB.out.q q).c4, (HB.out.q q).c5⟩
  clear lR f1 f2 f3 lP lT sP sT
  go_region_held3 (fun w' => w'.cell? ⟨w.heap.size, 0, none⟩ = some (.slice F R.length cr) ∧ w'.cell? ⟨w.heap.size, 1, none⟩ = some (.slice A c.V.length k1) ∧ w'.cell? ⟨w.heap.size, 2, none⟩ = some (.slice D c.N.length k2) ∧ w'.cell? ⟨w.heap.size, 3, none⟩ = some (.slice E c.M.length k3) ∧ w'.cell? ⟨w.heap.size, 4, none⟩ = some (.slice Pa P.length cp) ∧ w'.cell? ⟨w.heap.size, 5, none⟩ = some (.slice Ta T.length ct))
    (first
      | go_keep
      | exact AL.out _ p6
      | exact AL.out _ p5
      | exact AL.out _ p4
      | exact AL.out _ p3
      | exact AL.out _ p2
      | exact AL.out _ p1)
    (first
      | (go_at_call 80; (with_reducible refine (C1.out _ (Q.refl W0).drew).mono ?_); rintro e w1 ⟨g0, rfl, own0, q1⟩; have Own0 := Lib.hid own0; clear own0; have p1 : Q W0 w1 := (Q.refl W0).drew.trans q1)
      | (go_at_call 80; (with_reducible refine (C2.out _ p1).mono ?_); rintro e w2 ⟨g1, rfl, own1, q2⟩; have Own1 := Lib.hid own1; clear own1; have p2 : Q W0 w2 := p1.trans q2)
      | (go_at_call 81; (with_reducible refine (C3.out _ p2).mono ?_); rintro e w3 ⟨g2, rfl, own2, q3⟩; have Own2 := Lib.hid own2; clear own2; have p3 : Q W0 w3 := p2.trans q3)
      | (go_at_call 80; (with_reducible refine (C4.out _ p3).mono ?_); rintro e w4 ⟨g3, rfl, own3, q4⟩; have Own3 := Lib.hid own3; clear own3; have p4 : Q W0 w4 := p3.trans q4)
      | (go_at_call 82; (with_reducible refine (C5.out _ p4).mono ?_); rintro e w5 ⟨gp, rfl, hgp, tab5, q5⟩; have Tab5 := Lib.hid tab5; clear tab5; have Hgp := Lib.hid hgp; clear hgp; have p5 : Q W0 w5 := p4.trans q5)
      | (go_at_call 82; (with_reducible refine (C6.out _ p5).mono ?_); rintro e w6 ⟨gs, rfl, hgs, tab6, q6⟩; have Tab6 := Lib.hid tab6; clear tab6; have Hgs := Lib.hid hgs; clear hgs; have p6 : Q W0 w6 := p5.trans q6; have bx := HX.out.q p6; have y0 := bx.c.c0; have y1 := bx.c.c1; have y2 := bx.c.c2; have y3 := bx.c.c3; have y4 := bx.c.c4; have y5 := bx.c.c5; have z0 := bx.f0; have z1 := bx.f1; have z2 := bx.f2; have z3 := bx.f3; have z4 := bx.f4; have z5 := bx.f5))
  clear y0 y1 y2 y3 y4 y5 z0 z1 z2 z3 z4 z5 b0 b1 b2 b3 b4 b5
  have bz := bx.set (.slice (some ⟨g0, 0, none⟩) R.length R.length) (.slice (some ⟨g1, 0, none⟩) c.V.length c.V.length) (.slice (some ⟨g2, 0, none⟩) c.N.length c.N.length) (.slice (some ⟨g3, 0, none⟩) c.M.length c.M.length) (.slice (some ⟨gp, 0, none⟩) P.length P.length) (.slice (some ⟨gs, 0, none⟩) T.length T.length)
  have y0 := bz.c.c0
  have y1 := bz.c.c1
  have y2 := bz.c.c2
  have y3 := bz.c.c3
  have y4 := bz.c.c4
  have y5 := bz.c.c5
  have hgr := Lib.hid (set6_grown w6 (w.heap.size + 1) (.slice (some ⟨g0, 0, none⟩) R.length R.length) (.slice (some ⟨g1, 0, none⟩) c.V.length c.V.length) (.slice (some ⟨g2, 0, none⟩) c.N.length c.N.length) (.slice (some ⟨g3, 0, none⟩) c.M.length c.M.length) (.slice (some ⟨gp, 0, none⟩) P.length P.length) (.slice (some ⟨gs, 0, none⟩) T.length T.length))
  have hG := Lib.hid (fun (hz : W0.heap.size = w.heap.size + 2) => gout_close HQ0.out hz q1 q2 q3 q4 q5 q6 Own0.out Own1.out Own2.out Own3.out Hgp.out Tab5.out Hgs.out Tab6.out hgr.out)
  have hz := HZ.out
  clear bx bz
  go_wp2_with fail
  refine bodyPost_ret (v := gVal R c P T g0 g1 g2 g3 gp gs) (by simp [gVal, results, Tryz.f37, go_sem, y0, y1, y2, y3, y4, y5]) rfl ⟨g0, g1, g2, g3, gp, w5.heap.size, gs, w6.heap.size, rfl, hG.out hz⟩
end Go.Proofs.YtjmopbimleoidaaGreat.Ig

namespace Go.Proofs.YtjmopbimleoidaaGreat.Tr
open Go.RowKit Kit

structure OutR (w w' : World) (c : Cells) (g1 k1 g2 k2 g3 k3 : Nat) : Prop where
  o : Out w w' c g1 k1 g2 k2 g3 k3
  rv : w'.ownsRow w.heap.size 3 1 (.slice (some ⟨g1, 0, none⟩) c.V.length k1) c.V.length (cellsI c.V)
  rn : w'.ownsRow w.heap.size 113 2 (.slice (some ⟨g2, 0, none⟩) c.N.length k2) c.N.length (cellsP c.N)
theorem OutR.far {w w' w'' : World} {c : Cells} {g1 k1 g2 k2 g3 k3 B : Nat} (h : OutR w w' c g1 k1 g2 k2 g3 k3) (hg : w'.grownBy w'' (some B)) (hB : w.heap.size ≤ B) (h1 : B ≠ g1) (h2 : B ≠ g2) (h3 : B ≠ g3) : OutR w w'' c g1 k1 g2 k2 g3 k3 :=
  ⟨h.o.far hg hB h1 h2 h3, row_far h.rv hg h1, row_far h.rn hg h2⟩
theorem OutR.more {w w' w'' : World} {c : Cells} {g1 k1 g2 k2 g3 k3 : Nat} (h : OutR w w' c g1 k1 g2 k2 g3 k3) (q : Q w' w'') : OutR w w'' c g1 k1 g2 k2 g3 k3 :=
  ⟨h.o.more q, row_kept h.rv q (Nat.le_refl _), row_kept h.rn q (Nat.le_refl _)⟩
theorem OutR.from {w0 w w' : World} {c : Cells} {g1 k1 g2 k2 g3 k3 : Nat} (h : OutR w w' c g1 k1 g2 k2 g3 k3) (q : Q w0 w) : OutR w0 w' c g1 k1 g2 k2 g3 k3 :=
  ⟨h.o.from q, row_kept h.rv (Q.refl _) q.size, row_kept h.rn (Q.refl _) q.size⟩
def OutPostR (c : Cells) (w : World) (e : Ending) (w' : World) : Prop :=
  ∃ g1 k1 g2 k2 g3 k3, e = .returned (.agg #[.slice (some ⟨g1, 0, none⟩) c.V.length k1, .slice (some ⟨g2, 0, none⟩) c.N.length k2, .slice (some ⟨g3, 0, none⟩) c.M.length k3]) ∧ OutR w w' c g1 k1 g2 k2 g3 k3

set_option maxRecDepth 100000 in
set_option maxHeartbeats 2000000 in
theorem growR_any (c : Cells) (x : Int) (A D E : Option Addr) (n1 k1 n2 k2 n3 k3 : Nat) (w : World) (h1 : n1 = c.V.length) (h2 : n2 = c.N.length) (h3 : n3 = c.M.length) (h : Rd w c A k1 D k2 E k3) (hf : Few c 1000000) :
    Calls Tryz.prog 157 #[.agg #[.slice A n1 k1, .slice D n2 k2, .slice E n3 k3], .int .i64 x] w (OutPostR (growC c x) w) := by
  subst h1 h2 h3
  obtain ⟨W0, hW0, q0, hz0, hB, hX⟩ := boxes w (Value.slice A c.V.length k1) (Value.slice D c.N.length k2) (Value.slice E c.M.length k3) 29
  have HB := Lib.hid hB
  have HX := Lib.hid hX
  have HR := Lib.hid (h.q q0)
  have HZ := Lib.hid hz0
  have HW := Lib.hid hW0
  have Hf := Lib.hid hf
  obtain ⟨fv, fn, fm⟩ := hf
  obtain ⟨j0, hi, hz0', hz1, hz2⟩ := info_parts intInfo
  have Hi := Lib.hid hi
  have Hz1 := Lib.hid hz1
  clear hi hz0' hz1 hz2
  obtain ⟨j1, hi, hz0', hz1, hz2⟩ := info_parts noteInfo
  have Hi2 := Lib.hid hi
  have Hz2 := Lib.hid hz1
  clear hi hz0' hz1 hz2
  clear h hB hX hz0 hW0
  go_enter Tryz.func157, Tryz.ntmps157
  go_upto_region 1 with fail
  rw [← HW.out]
  have c0 := HB.out.c0
  have c1 := HB.out.c1
  have c2 := HB.out.c2
  clear HW
  go_upto_region 2 with (go_at_call 121; refine (copyOf_any c _ _ _ _ _ _ _ _ _ _ rfl rfl rfl HR.out Hf.out).mono ?_; rintro e w1 ⟨g1, g2, g3, rfl, hC⟩; have HC := Lib.hid hC; clear hC)
  clear c0 c1 c2
  obtain ⟨hS, hO⟩ := st_start q0 HZ.out HB.out HX.out HC.out (.slice (some ⟨g1, 0, none⟩) c.V.length (c.V.length + 1)) (.slice (some ⟨g2, 0, none⟩) c.N.length (c.N.length + 1)) (.slice (some ⟨g3, 0, none⟩) c.M.length (c.M.length + 1)) 29
  have HRr := Lib.hid (((HR.out.q HC.out.q).q ((Q.refl w1).alloc (.cells #[(.slice (some ⟨g1, 0, none⟩) c.V.length (c.V.length + 1)), (.slice (some ⟨g2, 0, none⟩) c.N.length (c.N.length + 1)), (.slice (some ⟨g3, 0, none⟩) c.M.length (c.M.length + 1))] 29))))
  generalize w1.alloc (.cells #[(.slice (some ⟨g1, 0, none⟩) c.V.length (c.V.length + 1)), (.slice (some ⟨g2, 0, none⟩) c.N.length (c.N.length + 1)), (.slice (some ⟨g3, 0, none⟩) c.M.length (c.M.length + 1))] 29) = W1 at *
  generalize w1.heap.size = B at *
  have HO := Lib.hid hO
  have HS := Lib.hid hS
  have i0 := hS.ib.c0
  have i1 := hS.ib.c1
  have i2 := hS.ib.c2
  clear hO hS
  have t0 := HS.out.tb.c0
  have tf0 := HS.out.tb.f0
  have t1 := HS.out.tb.c1
  have tf1 := HS.out.tb.f1
  have t2 := HS.out.tb.c2
  have tf2 := HS.out.tb.f2
  have qa := (Q.refl W1).alloc (.cells #[.int .i64 x] 3)
  have HSa := Lib.hid (HS.out.more qa)
  have HOa := Lib.hid (HO.out.more qa)
  have Hs := Lib.hid (src1 W1 (.int .i64 x) 3)
  clear qa
  have l1 := HO.out.lo
  have l2 := HO.out.d12
  have l3 := HO.out.d23
  have l4 := HO.out.d3B
  go_upto_region 3 with (at_builtin; refine wpList_append_fits _ rfl (.tmp 9) (.tmp 11) _ rfl (w.heap.size + 2) 3 j0 1 Tryz.underlying24 Hi.out Hz1.out g1 c.V.length (c.V.length + 1) (cellsI c.V) rfl HOa.out.v ⟨W1.heap.size, 0, none⟩ 1 1 [.int .i64 x] rfl rfl Hs.out (by simp [Value.oneCell']) (by omega) ?_; intro w2 own2 hgr; have hS2 := HSa.out.grown hgr l1 (by omega); have HG2 := Lib.hid hgr; have Own2 := Lib.hid own2; have HS2 := Lib.hid hS2; have y0 := hS2.tb.c0; have y1 := hS2.tb.c1; have y2 := hS2.tb.c2; have yf := hS2.tb.f0; clear hS2 own2 hgr)
  clear y0 y1 y2 yf t0 t1 t2 tf0 tf1 tf2
  have HS3 := Lib.hid (HS2.out.set0 (.slice (some ⟨g1, 0, none⟩) (c.V.length + 1) (c.V.length + 1)))
  have HN3 := Lib.hid (row_far (row_far HOa.out.n HG2.out (by omega)) (setCell_grown w2 B 0 (.slice (some ⟨g1, 0, none⟩) (c.V.length + 1) (c.V.length + 1))) (by omega))
  have HM3 := Lib.hid (row_far (row_far HOa.out.m HG2.out (by omega)) (setCell_grown w2 B 0 (.slice (some ⟨g1, 0, none⟩) (c.V.length + 1) (c.V.length + 1))) (by omega))
  have HV3 := Lib.hid (row_far Own2.out (setCell_grown w2 B 0 (.slice (some ⟨g1, 0, none⟩) (c.V.length + 1) (c.V.length + 1))) (by omega))
  clear HS2 Own2 HG2 HSa HOa
  generalize w2.setCell ⟨B, 0, none⟩ (.slice (some ⟨g1, 0, none⟩) (c.V.length + 1) (c.V.length + 1)) = W3 at *
  have t0 := HS3.out.tb.c0
  have tf0 := HS3.out.tb.f0
  have t1 := HS3.out.tb.c1
  have tf1 := HS3.out.tb.f1
  have t2 := HS3.out.tb.c2
  have tf2 := HS3.out.tb.f2
  have qa := (Q.refl W3).alloc (.cells #[.int .i64 (-1), .int .i64 0] 113)
  have HSb := Lib.hid (HS3.out.more qa)
  have HNb := Lib.hid (row_kept HN3.out qa (Nat.le_refl _))
  have HMb := Lib.hid (row_kept HM3.out qa (Nat.le_refl _))
  have HVb := Lib.hid (row_kept HV3.out qa (Nat.le_refl _))
  have Hs2 := Lib.hid (src2 W3 (.int .i64 (-1)) (.int .i64 0) 113)
  clear qa
  go_upto_region 4 with (at_builtin; refine wpList_append_fits _ rfl (.tmp 15) (.tmp 17) _ rfl (w.heap.size + 2) 113 j1 2 Tryz.underlying27 Hi2.out Hz2.out g2 c.N.length (c.N.length + 1) (cellsP c.N) rfl HNb.out ⟨W3.heap.size, 0, none⟩ 1 1 [.int .i64 (-1), .int .i64 0] rfl rfl Hs2.out (by simp [Value.oneCell']) (by omega) ?_; intro w4 own4 hgr; have hS4 := HSb.out.grown hgr (by omega) (by omega); have HG4 := Lib.hid hgr; have Own4 := Lib.hid own4; have HS4 := Lib.hid hS4; have y0 := hS4.tb.c0; have y1 := hS4.tb.c1; have y2 := hS4.tb.c2; have yf := hS4.tb.f1; clear hS4 own4 hgr)
  clear y0 y1 y2 yf t0 t1 t2 tf0 tf1 tf2
  have HS5 := Lib.hid (HS4.out.set1 (.slice (some ⟨g2, 0, none⟩) (c.N.length + 1) (c.N.length + 1)))
  have HV5 := Lib.hid (row_far (row_far HVb.out HG4.out (by omega)) (setCell_grown w4 B 1 (.slice (some ⟨g2, 0, none⟩) (c.N.length + 1) (c.N.length + 1))) (by omega))
  have HM5 := Lib.hid (row_far (row_far HMb.out HG4.out (by omega)) (setCell_grown w4 B 1 (.slice (some ⟨g2, 0, none⟩) (c.N.length + 1) (c.N.length + 1))) (by omega))
  have HN5 := Lib.hid (row_far Own4.out (setCell_grown w4 B 1 (.slice (some ⟨g2, 0, none⟩) (c.N.length + 1) (c.N.length + 1))) (by omega))
  clear HS4 Own4 HG4 HSb HNb HMb HVb
  generalize w4.setCell ⟨B, 1, none⟩ (.slice (some ⟨g2, 0, none⟩) (c.N.length + 1) (c.N.length + 1)) = W5 at *
  have t0 := HS5.out.tb.c0
  have tf0 := HS5.out.tb.f0
  have t1 := HS5.out.tb.c1
  have tf1 := HS5.out.tb.f1
  have t2 := HS5.out.tb.c2
  have tf2 := HS5.out.tb.f2
  have r0 := HS5.out.rb.c0
  have r1 := HS5.out.rb.c1
  have r2 := HS5.out.rb.c2
  have f0 := HS5.out.rb.f0
  have f1 := HS5.out.rb.f1
  have f2 := HS5.out.rb.f2
  have bz := HS5.out.rb.all (.slice (some ⟨g1, 0, none⟩) (c.V.length + 1) (c.V.length + 1)) (.slice (some ⟨g2, 0, none⟩) (c.N.length + 1) (c.N.length + 1)) (.slice (some ⟨g3, 0, none⟩) c.M.length (c.M.length + 1))
  have v0 := bz.c0
  have v1 := bz.c1
  have v2 := bz.c2
  clear bz
  go_wp2_with fail
  have O5 : Out w W5 (growC c x) g1 (c.V.length + 1) g2 (c.N.length + 1) g3 (c.M.length + 1) :=
    ⟨by have := OwnC.of_row HV5.out; rwa [← show cellsI (growC c x).V = cellsI c.V ++ [Value.int .i64 x] by simp [growC, cellsI]] at this,
      by have := OwnC.of_row HN5.out; rwa [← show cellsP (growC c x).N = cellsP c.N ++ [Value.int .i64 (-1), Value.int .i64 0] by show cellsP (c.N ++ [(-1, 0)]) = _; rw [cellsP_append]; rfl] at this, OwnC.of_row HM5.out, by simp [growC], by simp [growC], Nat.le_succ _, by omega, by omega, by omega, by omega, by omega, by omega, HS5.out.q⟩
  have R5 : OutR w W5 (growC c x) g1 (c.V.length + 1) g2 (c.N.length + 1) g3 (c.M.length + 1) :=
    ⟨O5, by have := row_kept HV5.out (Q.refl _) (show w.heap.size ≤ w.heap.size + 2 by omega); rw [← show cellsI (growC c x).V = cellsI c.V ++ [Value.int .i64 x] by simp [growC, cellsI]] at this; simpa [growC] using this,
      by have := row_kept HN5.out (Q.refl _) (show w.heap.size ≤ w.heap.size + 2 by omega); rw [← show cellsP (growC c x).N = cellsP c.N ++ [Value.int .i64 (-1), Value.int .i64 0] by show cellsP (c.N ++ [(-1, 0)]) = _; rw [cellsP_append]; rfl] at this; simpa [growC] using this⟩
  refine bodyPost_ret (v := .agg #[.slice (some ⟨g1, 0, none⟩) (c.V.length + 1) (c.V.length + 1), .slice (some ⟨g2, 0, none⟩) (c.N.length + 1) (c.N.length + 1), .slice (some ⟨g3, 0, none⟩) c.M.length (c.M.length + 1)]) (by simp [results, Tryz.f157, go_sem, v0, v1, v2]) rfl ⟨g1, c.V.length + 1, g2, c.N.length + 1, g3, c.M.length + 1, by simp [growC], ?_⟩
  exact R5.far (set3_grown W5 (w.heap.size + 1) _ _ _) (by omega) (by omega) (by omega) (by omega)
end Go.Proofs.YtjmopbimleoidaaGreat.Tr
