/-
  What the proofs lean on, part 23 of 25.
-/
import Derived.Test.YtdmdcggmgipdbaaGreatDoorPb
import Derived.Test.YtdmdcggmgipdbaaGreatDoorPf
import Derived.Test.YtdmdcggmgipdbaaGreatDoorPh
import Derived.Test.YtdmdcggmgipdbaaGreatDoorPj
import Derived.Test.YtdmdcggmgipdbaaGreatDoorPr
import Derived.Test.YtdmdcggmgipdbaaGreatDoorPu
import Derived.Test.YtdmdcggmgipdbaaGreatDoorPv
import Derived.Deep.DeepCutAuto
namespace Go.Proofs.YtdmdcggmgipdbaaGreatDoor.Ld
open Go.RowKit Kit Rw
open Go.Proofs.YtdmdcggmgipdbaaGreatDoor.Sg (Sig Row findI)
open Go.Proofs.YtdmdcggmgipdbaaGreatDoor.Hs (Keys Ints layI Dist cutAt slice_l)
open Go.Proofs.YtdmdcggmgipdbaaGreatDoor.Tm (Tm Store Box4 BoxF Wf PutG put3G_any put3L put3I put3E)
open Go.Proofs.YtdmdcggmgipdbaaGreatDoor.Ex (atS cellsS cellsI own_slice mayN np)
theorem slice_toI9 (A : Option Addr) (n c l : Nat) (i : Int) (hi : i = l) (h : l ≤ c) (u : World) : (Instr.slice 24 (.slice A n c) none (some (.int .i64 i)) none).run Tryz.prog u = .ok (.slice A l c) u := by
  obtain ⟨i0, hi0, hz0, hz1, hz2⟩ := info_parts Hs.intInfo
  simp [Instr.slice, run_underlying Tryz.underlying24, Instr.sliceBounds, Instr.sliceBound, asIntOf, sizeOf, typeInfo, hi0, hi, h, Addr.add]
theorem add_add9 (ad : Addr) (m j : Nat) : (ad.add m).add j = ad.add (m + j) := by
  unfold Addr.add
  by_cases h1 : m = 0
  · subst h1; simp
  · by_cases h2 : j = 0
    · subst h2; simp [h1]
    · simp [h1, h2, Nat.add_assoc]
theorem ints_cut {w : World} {Bk : Nat} {A : Option Addr} {xs : List Int} (h : Rds w Bk A (cellsI xs)) (m c : Nat) (hc : xs.length ≤ c) : Ints w Bk (cutAt A c m) (xs.drop m) := fun h0 => by
  rw [List.length_drop] at h0
  obtain ⟨ad, rfl, hb, hcc⟩ := h (by simp [cellsI]; omega)
  unfold cutAt
  rw [if_neg (by omega)]
  refine ⟨ad.add m, rfl, by rw [Rw.add_block]; exact hb, fun i x hx => ?_⟩
  rw [List.getElem?_drop] at hx
  have := hcc (m + i) (.int .i64 x) (by simp [cellsI, hx])
  rwa [← add_add9] at this
theorem own_take {w : World} {base n c m : Nat} {e : TypeId} {A : Option Addr} {xs : List Value} (h : w.ownsRow base e 1 (.slice A n c) n xs) (hm : m ≤ n) : w.ownsRow base e 1 (.slice A m c) m (xs.take m) := by
  have h2 := h
  obtain ⟨hl, ⟨e0, h0⟩ | ⟨g, cap, cur, e0, _⟩⟩ := h2
  · injection e0 with e1 e2 e3
    subst e1 e3
    obtain rfl : m = 0 := by omega
    rw [List.take_zero]
    exact own_nil _ _ _ _
  · injection e0 with e1 e2 e3
    subst e1 e3
    have := own_cut h hm
    rwa [Nat.mul_one] at this
theorem own_len (A : Option Addr) (n m c : Nat) : (Value.slice A n c).ownBlock = (Value.slice A m c).ownBlock := by cases A <;> rfl
/-- what the call of Put leaves: the box of its store, the place, the error -/
def CutL (W : World) (K : List (List Int)) (I Er : Int) (p id er : Value) (wx : World) : Prop :=
  ∃ ab A c S d lo hi, p = .pointer (some ⟨ab, 0, none⟩) ∧ id = .int .i64 I ∧ er = .int .i64 Er ∧ wx.cell? ⟨ab, 0, none⟩ = some (.slice A K.length c) ∧ wx.cell? ⟨ab, 1, none⟩ = some (.slice S (layI K).length d) ∧ W.heap.size ≤ ab ∧ ab < wx.heap.size ∧ Q W wx ∧ KeysAt wx lo hi A S K ∧ W.heap.size ≤ lo
theorem two_q {wr w3 : World} (p : Q wr w3) (a b : Value) : Q wr ((w3.setCell ⟨wr.heap.size, 0, none⟩ a).setCell ⟨wr.heap.size, 1, none⟩ b) :=
  (p.setCell (p := ⟨wr.heap.size, 0, none⟩) (Nat.le_refl _) _).setCell (p := ⟨wr.heap.size, 1, none⟩) (Nat.le_refl _) _
theorem cutL_first {W w3 : World} {K : List (List Int)} {I Er : Int} {A S : Option Addr} {c d lo : Nat} (bx : BoxF w3 W.heap.size) (p : Q W w3) (hF : ∀ U : World, (∀ q : Addr, lo ≤ q.block → q.block < w3.heap.size → U.cell? q = w3.cell? q) → Keys U w3.heap.size A K ∧ Ints U w3.heap.size S (layI K)) (hlo : W.heap.size < lo) :
    CutL W K I Er (.pointer (some ⟨W.heap.size, 0, none⟩)) (.int .i64 I) (.int .i64 Er) ((w3.setCell ⟨W.heap.size, 0, none⟩ (.slice A K.length c)).setCell ⟨W.heap.size, 1, none⟩ (.slice S (layI K).length d)) := by
  obtain ⟨y0, y1⟩ := bx.two (.slice A K.length c) (.slice S (layI K).length d)
  have hz : ((w3.setCell ⟨W.heap.size, 0, none⟩ (.slice A K.length c)).setCell ⟨W.heap.size, 1, none⟩ (.slice S (layI K).length d)).heap.size = w3.heap.size := by simp [World.setCell]
  refine ⟨W.heap.size, A, c, S, d, lo, w3.heap.size, rfl, rfl, rfl, y0, y1, Nat.le_refl _, by rw [hz]; exact bx.lt, two_q p _ _, ⟨by rw [hz]; exact Nat.le_refl _, fun U hU => hF U fun q h1 h2 => (hU q h1 h2).trans ?_⟩, Nat.le_of_lt hlo⟩
  exact (World.cell?_setCell_far _ _ _ _ (by show W.heap.size ≠ q.block; omega)).trans (World.cell?_setCell_far _ _ _ _ (by show W.heap.size ≠ q.block; omega))
theorem cutL_last {W w3 : World} {K : List (List Int)} {I Er : Int} {A S : Option Addr} {c d lo : Nat} (t : TypeId) (p : Q W w3) (hF : ∀ U : World, (∀ q : Addr, lo ≤ q.block → q.block < w3.heap.size → U.cell? q = w3.cell? q) → Keys U w3.heap.size A K ∧ Ints U w3.heap.size S (layI K)) (hlo : W.heap.size ≤ lo) :
    CutL W K I Er (.pointer (some ⟨w3.heap.size, 0, none⟩)) (.int .i64 I) (.int .i64 Er) (w3.alloc (.cells #[.slice A K.length c, .slice S (layI K).length d] t)) := by
  have q1 := (Q.refl w3).alloc (.cells #[.slice A K.length c, .slice S (layI K).length d] t)
  exact ⟨w3.heap.size, A, c, S, d, lo, w3.heap.size, rfl, rfl, rfl, by simp, by simp, p.size, by simp, p.alloc _, ⟨q1.size, fun U hU => hF U fun q h1 h2 => (hU q h1 h2).trans (q1.cell h2)⟩, hlo⟩
section
variable (w0 : World) (B b : Nat) (R : Option Addr) (cl : Nat) (L : List Sig) (A1 S1 : Option Addr) (c1 d1 : Nat) (ks : List (List Int)) (v : Value) (own : List ByteArray) (limit : Int) (u : Value) (wt : List Int) (lo hi : Nat)
def LayPost (n : Tg) (t : Tm) (m : Nat) (e : Ending) (w' : World) : Prop :=
  e = .returned (.int .i64 (put3E L ks t limit)) ∧ Q w0 w' ∧ (put3E L ks t limit = 0 → ∃ A S c d v u lo hi, LdS w0 w' B b R cl L A S c d (put3L L ks t limit) v (ownN own n) limit u (wt.take m ++ [put3I L ks t limit]) lo hi ∧ w0.heap.size ≤ lo)
set_option maxRecDepth 100000 in
set_option maxHeartbeats 8000000 in
theorem lay9_any (w : World) (n : Tg) (m : Nat) (h : LdS w0 w B b R cl L A1 S1 c1 d1 ks v own limit u wt lo hi) (hm : mayN n = true) (hll : L.length ≤ 1000) (hs : n.2.1.size ≤ 1000) (ho : own.length ≤ 100000) (hp : wt.length = m + np n) (hwl : wt.length ≤ 1000)
    (hd : Dist ks) (hkx : ∀ k ∈ ks, k.length ≤ 100000) (hkl : ks.length ≤ 5000) (hkf : ks.flatten.length ≤ 50000) :
    Calls Tryz.prog 46 #[.pointer (some ⟨B, 0, none⟩), .agg #[.int .i64 n.1, .string n.2.1, .int .i64 n.2.2]] w (LayPost w0 B b R cl L ks own limit wt n (tmN L own n (wt.drop m)) m) := by
  obtain ⟨i0, hi, hz0, hz1, hz2⟩ := info_parts Hs.intInfo
  have Hi := Lib.hid hi
  have Hz0 := Lib.hid hz0
  have Hz1 := Lib.hid hz1
  have Hz2 := Lib.hid hz2
  clear hi hz0 hz1 hz2
  have hk7 := Ex.may_kinds hm
  have HWf : Hid (Wf n.1) := by unfold Hid Wf; omega
  have q0 := (Q.refl w).alloc (Obj.cells #[.int .i64 n.1, .string n.2.1, .int .i64 n.2.2] 67)
  have CB := Lib.hid (bare_any w0 B b R cl L A1 S1 c1 d1 ks v own limit u wt lo hi _ n (h.more q0) hm hll hs ho)
  have HNb := Lib.hid (Ex.own_new w [.int .i64 n.1, .string n.2.1, .int .i64 n.2.2] 67)
  change Hid (OwnC (w.alloc (Obj.cells #[.int .i64 n.1, .string n.2.1, .int .i64 n.2.2] 67)) w.heap.size [.int .i64 n.1, .string n.2.1, .int .i64 n.2.2]) at HNb
  have c0 := (HNb.out.2 0 _ rfl).1
  have c1' := (HNb.out.2 1 _ rfl).1
  have c2' := (HNb.out.2 2 _ rfl).1
  have HP := Lib.hid hp
  have HWL := Lib.hid hwl
  have HD := Lib.hid hd
  have HKX := Lib.hid hkx
  have HT : Hid ((tmN L own n (wt.drop m)) = ⟨n.1, symN L own n, partP n, wt.drop m⟩) := rfl
  have hdl : (wt.drop m).length = np n := by rw [List.length_drop]; omega
  have HDL := Lib.hid hdl
  have e1 : (wt.length : Int) - ((np n : Nat) : Int) = (m : Int) := by omega
  have g0 : ¬ (((np n : Nat) : Int) > (wt.length : Int)) := by omega
  have hm1 : m ≤ wt.length := by omega
  have hnpl : np n ≤ 1000 := by omega
  clear h q0 hm hs hk7 hp hwl hd hkx hdl
  go_enter Tryz.func46, Tryz.ntmps46
  go_wp2_with fail
  generalize w.alloc (Obj.cells #[.int .i64 n.1, .string n.2.1, .int .i64 n.2.2] 67) = W0 at *
  refine CB.out.mono ?_
  rintro e w1 ⟨rfl, v1, h1⟩
  clear CB c0 c1' c2' HNb
  obtain ⟨t, ht⟩ : ∃ t : Tm, t = tmN L own n (wt.drop m) := ⟨_, rfl⟩
  have hk : n.1 = t.k := by rw [ht]; rfl
  have hsy : symN L own n = t.s := by rw [ht]; rfl
  have hpa : partP n = t.p := by rw [ht]; rfl
  have hxs : t.xs = wt.drop m := by rw [ht]; rfl
  have HXs := Lib.hid hxs
  have HTt := Lib.hid ht
  have HXl : Hid (t.xs.length = np n) := by unfold Hid; rw [hxs]; exact HDL.out
  have HWt : Hid (Wf t.k) := by rw [← hk]; exact HWf
  rw [hk, hsy, hpa]
  clear hk hsy hpa hxs ht
  generalize hN : np n = N at *
  clear hN
  have q1 := (Q.refl w1).alloc (Obj.cells #[.int .i64 t.k, .int .i64 t.s, .int .i64 t.p, .slice none 0 0] 77)
  have H1 := Lib.hid (h1.more q1)
  have HB4 := Lib.hid (Box4.new w1 (.int .i64 t.k) (.int .i64 t.s) (.int .i64 t.p) (.slice none 0 0) 77)
  have HOut : Hid (w1.heap.size ≠ B ∧ w1.heap.size ≠ b ∧ v1.ownBlock ≠ some w1.heap.size ∧ u.ownBlock ≠ some w1.heap.size ∧ hi ≤ w1.heap.size ∧ w0.heap.size ≤ w1.heap.size) := by
    have a1 := h1.box.1
    have a2 := h1.num.lt
    have a3 := h1.keys.1
    have a4 := h1.q.size
    exact Lib.hid ⟨by omega, by omega, fun e => by have := (h1.nms.lt _ e).2; omega, fun e => by have := (h1.wts.lt _ e).2; omega, a3, a4⟩
  have H1o := Lib.hid h1
  clear q1 h1
  obtain ⟨b0, b1, b2, b3, b4, b5, b6⟩ := H1.out.cells
  obtain ⟨Au, cu, hue, hcu, hru⟩ := own_read H1o.out.wts
  subst hue
  have f3 := HB4.out.f3
  have x3 := HB4.out.c3
  have hsl := slice_l Au wt.length cu m hm1
  have hwm : wrap64 (m : Int) = (m : Int) := IntWalk.wrap64_in _ (by have := HWL.out; omega)
  have dz0 : decide ((N : Int) < 0) = false := decide_eq_false (by omega)
  have dz1 : decide (wt.length < N) = false := decide_eq_false (by have := HP.out; omega)
  have HRu := Lib.hid hru
  clear hru
  go_wp2_with fail
  have hne : wt.length - m = t.xs.length := by have := HXs.out; rw [this, List.length_drop]
  rw [hne]
  obtain ⟨E, hE⟩ : ∃ E, E = cutAt Au cu m := ⟨_, rfl⟩
  obtain ⟨ce, hce⟩ : ∃ ce, ce = cu - m := ⟨_, rfl⟩
  rw [← hE, ← hce]
  have q1 := (Q.refl w1).alloc (Obj.cells #[.int .i64 t.k, .int .i64 t.s, .int .i64 t.p, .slice E t.xs.length ce] 77)
  have HW := Lib.hid (H1o.out.more q1)
  have HBx := Lib.hid (Box4.new w1 (.int .i64 t.k) (.int .i64 t.s) (.int .i64 t.p) (.slice E t.xs.length ce) 77)
  have HEi : Hid (Ints (w1.alloc (Obj.cells #[.int .i64 t.k, .int .i64 t.s, .int .i64 t.p, .slice E t.xs.length ce] 77)) (w1.alloc (Obj.cells #[.int .i64 t.k, .int .i64 t.s, .int .i64 t.p, .slice E t.xs.length ce] 77)).heap.size E t.xs) := by
    unfold Hid
    have hh := ints_cut (HRu.out.q q1) m cu hcu
    rw [← hE, ← HXs.out] at hh
    exact hh
  clear b0 b1 b2 b3 b4 b5 b6 f3 x3 hsl q1 H1o H1 HB4 hE hce hne
  generalize w1.alloc (Obj.cells #[.int .i64 t.k, .int .i64 t.s, .int .i64 t.p, .slice E t.xs.length ce] 77) = W at *
  obtain ⟨tb, htb⟩ : ∃ tb, tb = w1.heap.size := ⟨_, rfl⟩
  rw [← htb] at HBx HOut ⊢
  have HTb := Lib.hid htb
  clear htb
  have HKp : Hid (∀ U, Q W U → U.cell? ⟨B, 0, none⟩ = some (.slice R L.length cl) ∧ U.cell? ⟨B, 1, none⟩ = some (.slice A1 ks.length c1) ∧ U.cell? ⟨B, 2, none⟩ = some (.slice S1 (layI ks).length d1) ∧ U.cell? ⟨B, 5, none⟩ = some (.int .i64 limit) ∧ U.cell? ⟨tb, 0, none⟩ = some (.int .i64 t.k) ∧ U.cell? ⟨tb, 1, none⟩ = some (.int .i64 t.s) ∧ U.cell? ⟨tb, 2, none⟩ = some (.int .i64 t.p) ∧ U.cell? ⟨tb, 3, none⟩ = some (.slice E t.xs.length ce)) := fun U q => by
    obtain ⟨a0, a1, a2, a3, a4, a5, a6⟩ := (HW.out.more q).cells
    have hb := HBx.out.q q
    exact ⟨a0, a1, a2, a5, hb.c0, hb.c1, hb.c2, hb.c3⟩
  have HCP : Hid (∀ U, Q W U → Calls Tryz.prog 79 #[.slice R L.length cl, .agg #[.slice A1 ks.length c1, .slice S1 (layI ks).length d1], .agg #[.int .i64 t.k, .int .i64 t.s, .int .i64 t.p, .slice E t.xs.length ce], .int .i64 limit] U (PutG (put3L L ks t limit) (layI (put3L L ks t limit)) (put3I L ks t limit) (put3E L ks t limit) U)) := fun U q => by
    have hu := HW.out.more q
    obtain ⟨k1, k2⟩ := hu.keys.here
    exact put3G_any R A1 S1 E L.length cl ks.length c1 (layI ks).length d1 t.xs.length ce L ks t limit U rfl hu.rowW rfl rfl k1 k2 rfl ((HEi.out.q (Nat.le_refl _) q).more q.size) HWt.out HD.out HKX.out hkl hkf (by have := HXl.out; omega)
  generalize hK : put3L L ks t limit = KK at *
  generalize hI : put3I L ks t limit = I at *
  generalize hEr : put3E L ks t limit = Er at *
  have HKe := Lib.hid hK
  have HIe := Lib.hid hI
  have HErr := Lib.hid hEr
  clear hK hI hEr
  rw [hwm]
  clear hwm
  go_cut [8, 9, 10] (CutL W KK I Er)
  case first =>
    go_region_held3 (fun w' => w'.cell? ⟨B, 0, none⟩ = some (.slice R L.length cl) ∧ w'.cell? ⟨B, 1, none⟩ = some (.slice A1 ks.length c1) ∧ w'.cell? ⟨B, 2, none⟩ = some (.slice S1 (layI ks).length d1) ∧ w'.cell? ⟨B, 5, none⟩ = some (.int .i64 limit) ∧ w'.cell? ⟨tb, 0, none⟩ = some (.int .i64 t.k) ∧ w'.cell? ⟨tb, 1, none⟩ = some (.int .i64 t.s) ∧ w'.cell? ⟨tb, 2, none⟩ = some (.int .i64 t.p) ∧ w'.cell? ⟨tb, 3, none⟩ = some (.slice E t.xs.length ce))
      (first
        | (with_reducible exact HKp.out _ (two_q p3 _ _))
        | (with_reducible exact HKp.out _ (p3.alloc _))
        | (with_reducible exact HKp.out _ p3)
        | exact HKp.out _ (Q.refl W).drew
        | exact HKp.out _ ((Q.refl W).drew.alloc _)
        | go_keep)
      (first
        | (go_at_call 79; refine (HCP.out _ (by first | exact (Q.refl W).drew | exact (Q.refl W).drew.alloc _ | exact ((Q.refl W).alloc _).drew)).mono ?_; rintro e w3 ⟨A3, c3, S3, d3, rfl, hF, q3, hcp⟩; have HF3 := Lib.hid hF; clear hF hcp; have p3 : Q W w3 := (by first | exact (Q.refl W).drew.trans q3 | exact ((Q.refl W).drew.alloc _).trans q3 | exact ((Q.refl W).alloc _).drew.trans q3); (first | (have bx : BoxF w3 W.heap.size := (by first | exact (BoxF.new W.drew _).q q3 | exact (BoxF.new W _).q q3); have y0 := bx.c0; have y1 := bx.c1; have z0 := bx.f0; have z1 := bx.f1) | skip)))
    · go_wp2_with fail
      go_meet
      exact cutL_last _ p3 HF3.out (by first | exact Nat.le_refl _ | simp)
    · go_wp2_with fail
      go_meet
      exact cutL_first bx p3 HF3.out (by simp)
  case rest =>
    obtain ⟨ab, A4, c4, S4, d4, lo4, hi4, rfl, rfl, rfl, a0, a1, hab, habl, qc, hka, hlo⟩ := hcut
    have HWc := Lib.hid (HW.out.more qc)
    by_cases hE0 : Er = 0
    · have HE0 := Lib.hid hE0
      have e0 : (Er != 0) = false := by simp [hE0]
      have hmcu : m ≤ cu := by omega
      have hsl := slice_toI9 Au wt.length cu m (m : Int) rfl hmcu
      have q1 := (Q.refl wc).drew.alloc (Obj.cells #[.int .i64 I] 3)
      have HL1 := Lib.hid (HWc.out.more q1)
      have HOw : Hid ((wc.drew.alloc (Obj.cells #[.int .i64 I] 3)).ownsRow w0.heap.size 3 1 (.slice Au m cu) m (cellsI (wt.take m))) := by
        have := own_take HL1.out.wts hm1
        have e : (cellsI wt).take m = cellsI (wt.take m) := by simp [cellsI]
        rwa [e] at this
      have HSr : Hid (Src (wc.drew.alloc (Obj.cells #[.int .i64 I] 3)) (some ⟨wc.heap.size, 0, none⟩) [.int .i64 I]) := src_alloc wc.drew [.int .i64 I] 3 (0, 0)
      have HLo : Hid (w0.heap.size ≤ lo4) := Nat.le_trans HW.out.q.size hlo
      have HuB : Hid ((Value.slice Au m cu).ownBlock ≠ some B) := Lib.hid (by rw [own_len Au m wt.length cu]; exact HW.out.uB)
      have HKa := Lib.hid (hka.q q1)
      have hBW := HW.out.box.1
      have HabB : Hid (B ≠ ab) := by unfold Hid; omega
      have hab0 : ab < (wc.drew.alloc (Obj.cells #[.int .i64 I] 3)).heap.size := Nat.lt_of_lt_of_le habl q1.size
      have a0' := (q1.cell (p := ⟨ab, 0, none⟩) habl).trans a0
      have a1' := (q1.cell (p := ⟨ab, 1, none⟩) habl).trans a1
      have HAb : Hid (∀ w5 : World, (wc.drew.alloc (Obj.cells #[.int .i64 I] 3)).grownBy w5 (Value.slice Au m cu).ownBlock → w5.cell? ⟨ab, 0, none⟩ = some (.slice A4 KK.length c4) ∧ w5.cell? ⟨ab, 1, none⟩ = some (.slice S4 (layI KK).length d4)) := fun w5 gr => by
        have hb := gr.block ab hab0 fun e => by
          have : (Value.slice Au wt.length cu).ownBlock = some ab := (own_len Au wt.length m cu).trans e.symm
          have := (HW.out.wts.lt ab this).2
          omega
        exact ⟨(World.cell?_of_block (a := ⟨ab, 0, none⟩) hb).trans a0', (World.cell?_of_block (a := ⟨ab, 1, none⟩) hb).trans a1'⟩
      have HOff : Hid (Off lo4 hi4 B ∧ (∀ g, v1.ownBlock = some g → Off lo4 hi4 g) ∧ ∀ g, (Value.slice Au wt.length cu).ownBlock = some g → Off lo4 hi4 g) := by
        refine Lib.hid ⟨.inl (by omega), fun g e => .inl (by have := (HW.out.nms.lt g e).2; omega), fun g e => .inl (by have := (HW.out.wts.lt g e).2; omega)⟩
      have b6 := HWc.out.cells.2.2.2.2.2.2
      have HS0 : Hid (wc.drew.cell? ⟨ab, 0, none⟩ = some (.slice A4 KK.length c4) ∧ wc.drew.cell? ⟨ab, 1, none⟩ = some (.slice S4 (layI KK).length d4) ∧ wc.drew.cell? ⟨B, 6, none⟩ = some (.slice Au wt.length cu)) := Lib.hid ⟨a0, a1, b6⟩
      have HS1 : Hid ((wc.drew.alloc (Obj.cells #[.int .i64 I] 3)).cell? ⟨ab, 0, none⟩ = some (.slice A4 KK.length c4) ∧ (wc.drew.alloc (Obj.cells #[.int .i64 I] 3)).cell? ⟨ab, 1, none⟩ = some (.slice S4 (layI KK).length d4) ∧ (wc.drew.alloc (Obj.cells #[.int .i64 I] 3)).cell? ⟨B, 6, none⟩ = some (.slice Au wt.length cu)) := Lib.hid ⟨a0', a1', HL1.out.cells.2.2.2.2.2.2⟩
      clear a0 a1 a0' a1' b6 q1 hka hBW hE0 hab0
      go_wp2_with fail
      refine begin_t (S := fun w' => w'.cell? ⟨ab, 0, none⟩ = some (.slice A4 KK.length c4) ∧ w'.cell? ⟨ab, 1, none⟩ = some (.slice S4 (layI KK).length d4) ∧ w'.cell? ⟨B, 6, none⟩ = some (.slice Au wt.length cu)) (z := 17) (by kernel_rfl) ?_ (fun hHeld => ?_)
      · exact HS0.out
      refine take_y (i := 0) (d := some 63) (v := ?_) rfl (by kernel_rfl) (by kernel_rfl) (by kernel_rfl) (by kernel_rfl) (fun _ _ _ h => h) rfl (by rfl) ?_ (by assumption) ?_
      rotate_left
      · (intro w; go_simp; (try with_reducible rfl))
      try simp only [Act.put, List.setIfInBounds_toArray, List.set_cons_zero, List.set_cons_succ]
      refine take_y (i := 1) (d := some 64) (v := ?_) rfl (by kernel_rfl) (by kernel_rfl) (by kernel_rfl) (by kernel_rfl) (fun _ _ _ h => h) rfl (by rfl) ?_ (by assumption) ?_
      rotate_left
      · (intro w; go_simp; (try with_reducible rfl))
      try simp only [Act.put, List.setIfInBounds_toArray, List.set_cons_zero, List.set_cons_succ]
      refine take_t (i := 2) (d := some 65) (v := ?_) rfl (by kernel_rfl) (by kernel_rfl) (by kernel_rfl) (by kernel_rfl) (fun _ _ _ h => h) rfl (by rfl) ?_ (by assumption) ?_
      rotate_left
      · (intro w hSw; (try dsimp only at hSw); go_simp; (try with_reducible rfl))
      try simp only [Act.put, List.setIfInBounds_toArray, List.set_cons_zero, List.set_cons_succ]
      refine take_y (i := 3) (d := some 66) (v := ?_) rfl (by kernel_rfl) (by kernel_rfl) (by kernel_rfl) (by kernel_rfl) (fun _ _ _ h => h) rfl (by rfl) ?_ (by assumption) ?_
      rotate_left
      · (intro w; go_simp; (try with_reducible rfl))
      try simp only [Act.put, List.setIfInBounds_toArray, List.set_cons_zero, List.set_cons_succ]
      refine take_y (i := 4) (d := some 67) (v := ?_) rfl (by kernel_rfl) (by kernel_rfl) (by kernel_rfl) (by kernel_rfl) (fun _ _ _ h => h) rfl (by rfl) ?_ (by assumption) ?_
      rotate_left
      · (intro w; go_simp; (try with_reducible rfl))
      try simp only [Act.put, List.setIfInBounds_toArray, List.set_cons_zero, List.set_cons_succ]
      refine take_y (i := 5) (d := some 68) (v := ?_) rfl (by kernel_rfl) (by kernel_rfl) (by kernel_rfl) (by kernel_rfl) (fun _ _ _ h => h) rfl (by rfl) ?_ (by assumption) ?_
      rotate_left
      · (intro w; go_simp; (try with_reducible rfl))
      try simp only [Act.put, List.setIfInBounds_toArray, List.set_cons_zero, List.set_cons_succ]
      refine take_t (i := 6) (d := some 69) (v := ?_) rfl (by kernel_rfl) (by kernel_rfl) (by kernel_rfl) (by kernel_rfl) (fun _ _ _ h => h) rfl (by rfl) ?_ (by assumption) ?_
      rotate_left
      · (intro w hSw; (try dsimp only at hSw); go_simp; (try with_reducible rfl))
      try simp only [Act.put, List.setIfInBounds_toArray, List.set_cons_zero, List.set_cons_succ]
      refine take_y (i := 7) (d := some 70) (v := ?_) rfl (by kernel_rfl) (by kernel_rfl) (by kernel_rfl) (by kernel_rfl) (fun _ _ _ h => h) rfl (by rfl) ?_ (by assumption) ?_
      rotate_left
      · (intro w; go_simp; (try with_reducible rfl))
      try simp only [Act.put, List.setIfInBounds_toArray, List.set_cons_zero, List.set_cons_succ]
      refine take_y (i := 8) (d := some 71) (v := ?_) rfl (by kernel_rfl) (by kernel_rfl) (by kernel_rfl) (by kernel_rfl) (fun _ _ _ h => h) rfl (by rfl) ?_ (by assumption) ?_
      rotate_left
      · (intro w; go_simp; (try with_reducible rfl))
      try simp only [Act.put, List.setIfInBounds_toArray, List.set_cons_zero, List.set_cons_succ]
      refine take_y (i := 9) (d := some 72) (v := ?_) rfl (by kernel_rfl) (by kernel_rfl) (by kernel_rfl) (by kernel_rfl) (fun _ _ _ h => h) rfl (by rfl) ?_ (by assumption) ?_
      rotate_left
      · (intro w; go_simp; (try with_reducible rfl))
      try simp only [Act.put, List.setIfInBounds_toArray, List.set_cons_zero, List.set_cons_succ]
      refine call_t (i := 10) rfl (by kernel_rfl) (by rfl) (fun K hK => ?_)
      go_simp
      have hHeld : ((fun w' => w'.cell? ⟨ab, 0, none⟩ = some (.slice A4 KK.length c4) ∧ w'.cell? ⟨ab, 1, none⟩ = some (.slice S4 (layI KK).length d4) ∧ w'.cell? ⟨B, 6, none⟩ = some (.slice Au wt.length cu)) : World → Prop) _ := HS1.out
      refine hK.out _ _ (fun _ => hHeld) ?_
      clear hK K
      try simp only [Act.put, List.setIfInBounds_toArray, List.set_cons_zero, List.set_cons_succ]
      refine call_t (i := 11) rfl (by kernel_rfl) (by rfl) (fun K hK => ?_)
      refine wp_append_src _ (.tmp 71) (.tmp 73) _ rfl w0.heap.size 3 i0 _ 1 8 Tryz.underlying24 Hi.out Hz0.out Hz1.out Hz2.out rfl (by omega) (.slice Au m cu) m (cellsI (wt.take m)) rfl HOw.out (some ⟨wc.heap.size, 0, none⟩) 1 1 [.int .i64 I] rfl rfl HSr.out (by simp [Value.oneCell']) (by have := HWL.out; unfold maxLen; omega) (by have := HWL.out; omega) HL1.out.q.size ?_
      intro u' w5 own5 gr5 bl5
      obtain ⟨g', cap', rfl⟩ := own_slice own5 (by omega)
      have hbx5 := HL1.out.box.grown gr5 HuB.out
      have k0 := HAb.out w5 gr5
      have k1 := (hbx5.2 1 _ rfl).1
      have k2 := (hbx5.2 2 _ rfl).1
      have k6 := (hbx5.2 6 _ rfl).1
      have z1 := (hbx5.2 1 _ rfl).2
      have z2 := (hbx5.2 2 _ rfl).2
      have z6 := (hbx5.2 6 _ rfl).2
      have HFin := Lib.hid (HL1.out.finish (u1 := .slice Au m cu) (c' := c4) (d' := d4) hm1 (.inl (own_len Au m wt.length cu)) own5 gr5 bl5 HKa.out HOff.out.1 HOff.out.2.1 HOff.out.2.2)
      clear own5 gr5 bl5 hbx5
      have hHeld : ((fun w' => w'.cell? ⟨ab, 0, none⟩ = some (.slice A4 KK.length c4) ∧ w'.cell? ⟨ab, 1, none⟩ = some (.slice S4 (layI KK).length d4) ∧ w'.cell? ⟨B, 6, none⟩ = some (.slice Au wt.length cu)) : World → Prop) _ := ⟨k0.1, k0.2, k6⟩
      refine hK.out _ _ (fun _ => hHeld) ?_
      clear hK K
      try simp only [Act.put, List.setIfInBounds_toArray]
      refine take_y (i := 12) (d := some 75) (v := ?_) rfl (by kernel_rfl) (by kernel_rfl) (by kernel_rfl) (by kernel_rfl) (fun _ _ _ h => h) rfl (by rfl) ?_ (by assumption) ?_
      rotate_left
      · (intro w; go_simp; (try with_reducible rfl))
      try simp only [Act.put]
      refine take_y (i := 13) (d := some 76) (v := ?_) rfl (by kernel_rfl) (by kernel_rfl) (by kernel_rfl) (by kernel_rfl) (fun _ _ _ h => h) rfl (by rfl) ?_ (by assumption) ?_
      rotate_left
      · (intro w; go_simp; (try with_reducible rfl))
      try simp only [Act.put]
      refine call_t (i := 14) rfl (by kernel_rfl) (by rfl) (fun K hK => ?_)
      have j2 := Rw.setCell_ne (i := 1) (j := 2) (v := .slice A4 KK.length c4) (by omega) k2
      have j6 := Rw.setCell_ne (i := 2) (j := 6) (v := .slice S4 (layI KK).length d4) (by omega) (Rw.setCell_ne (i := 1) (j := 6) (v := .slice A4 KK.length c4) (by omega) k6)
      go_simp
      have hHeld : ((fun w' => w'.cell? ⟨ab, 0, none⟩ = some (.slice A4 KK.length c4) ∧ w'.cell? ⟨ab, 1, none⟩ = some (.slice S4 (layI KK).length d4) ∧ w'.cell? ⟨B, 6, none⟩ = some (.slice Au wt.length cu)) : World → Prop) _ := ⟨(World.cell?_setCell_far _ _ _ _ HabB.out).trans ((World.cell?_setCell_far _ _ _ _ HabB.out).trans k0.1), (World.cell?_setCell_far _ _ _ _ HabB.out).trans ((World.cell?_setCell_far _ _ _ _ HabB.out).trans k0.2), j6⟩
      refine hK.out _ _ (fun _ => hHeld) ?_
      clear hK K
      try simp only [Act.put, List.setIfInBounds_toArray, List.set_cons_zero, List.set_cons_succ]
      refine take_y (i := 15) (d := some 77) (v := ?_) rfl (by kernel_rfl) (by kernel_rfl) (by kernel_rfl) (by kernel_rfl) (fun _ _ _ h => h) rfl (by rfl) ?_ (by assumption) ?_
      rotate_left
      · (intro w; go_simp; (try with_reducible rfl))
      try simp only [Act.put]
      refine take_y (i := 16) (d := some 78) (v := ?_) rfl (by kernel_rfl) (by kernel_rfl) (by kernel_rfl) (by kernel_rfl) (fun _ _ _ h => h) rfl (by rfl) ?_ (by assumption) ?_
      rotate_left
      · (intro w; go_simp; (try with_reducible rfl))
      try simp only [Act.put]
      refine call_t (i := 17) rfl (by kernel_rfl) (by rfl) (fun K hK => ?_)
      go_simp
      refine hK.out _ _ (fun hz => by cases hz) ?_
      clear hK K
      try simp only [Act.put, List.setIfInBounds_toArray, List.set_cons_zero, List.set_cons_succ]
      refine done_t (by kernel_rfl) ?_ _
      go_wp2_with fail
      go_ret
      unfold LayPost
      rw [← HTt.out, HErr.out, HE0.out, HKe.out, HIe.out]
      exact ⟨rfl, HFin.out.q, fun _ => ⟨_, _, _, _, _, _, _, _, HFin.out, HLo.out⟩⟩
    · have e0 : (Er != 0) = true := by simpa using hE0
      have HE0 := Lib.hid hE0
      clear hE0 a0 a1
      go_wp2_with fail
      go_ret
      unfold LayPost
      rw [← HTt.out, HErr.out]
      exact ⟨rfl, HWc.out.q, fun h => absurd h HE0.out⟩
end
end Go.Proofs.YtdmdcggmgipdbaaGreatDoor.Ld

namespace Go.Proofs.YtdmdcggmgipdbaaGreatDoor.Tm
open Go.RowKit Kit Hs

set_option maxRecDepth 100000 in
set_option maxHeartbeats 2000000 in
theorem copyOf9_any (A S : Option Addr) (n c m d : Nat) (ks : List (List Int)) (sl : List Int) (w : World) (hn : n = ks.length) (hm : m = sl.length) (hk : Keys w w.heap.size A ks) (hS : Ints w w.heap.size S sl) (hl : ks.length ≤ 5000) (hs : ∀ k ∈ ks, k.length ≤ 100000) (hsl : sl.length ≤ 100000) :
    Calls Tryz.prog 47 #[.agg #[.slice A n c, .slice S m d]] w (CopyOfPost ks sl w) := by
  subst hn
  subst hm
  have q0 := ((Q.refl w).alloc (Obj.cells #[Value.slice A ks.length c, Value.slice S sl.length d] 26)).alloc (Obj.cells #[Value.slice none 0 0, Value.slice none 0 0] 26)
  obtain ⟨vs, hvl, hvs, hvv⟩ := hk.vals
  have Hv1 := Lib.hid (vals_one hvl hvv)
  have Hvl := Lib.hid hvl
  have HVS := Lib.hid ((hvs.keep q0).more q0.size)
  have Hvv := Lib.hid hvv
  have HSS := Lib.hid ((hS.srcB.keep q0).more q0.size)
  have HSw := Lib.hid hS
  have HB := Lib.hid (TwoB.new w (Value.slice A ks.length c) (Value.slice S sl.length d) (Value.slice none 0 0) (Value.slice none 0 0) 26 26)
  have HsM := Lib.hid hs
  clear hk hS hs hvl hvs hvv
  go_enter Tryz.func47, Tryz.ntmps47
  go_upto_region 1 with fail
  generalize (w.alloc (Obj.cells #[Value.slice A ks.length c, Value.slice S sl.length d] 26)).alloc (Obj.cells #[Value.slice none 0 0, Value.slice none 0 0] 26) = W0 at *
  go_cut [3] (CpR w ks sl)
  case first =>
    have c0 := HB.out.c0
    have c1 := HB.out.c1
    have hlt := HB.out.lt
    have hlt0 : w.heap.size < W0.heap.size := by omega
    go_region_held3 (fun w' => w'.cell? ⟨w.heap.size, 0, none⟩ = some (.slice A ks.length c) ∧ w'.cell? ⟨w.heap.size, 1, none⟩ = some (.slice S sl.length d))
      (first
        | go_keep
        | exact ⟨(p2.cell (p := ⟨w.heap.size, 0, none⟩) hlt0).trans c0, (p2.cell (p := ⟨w.heap.size, 1, none⟩) hlt0).trans c1⟩
        | exact ⟨((p2.alloc _).cell (p := ⟨w.heap.size, 0, none⟩) hlt0).trans c0, ((p2.alloc _).cell (p := ⟨w.heap.size, 1, none⟩) hlt0).trans c1⟩
        | exact ⟨(p1.cell (p := ⟨w.heap.size, 0, none⟩) hlt0).trans c0, (p1.cell (p := ⟨w.heap.size, 1, none⟩) hlt0).trans c1⟩
        | exact ⟨((p1.alloc _).cell (p := ⟨w.heap.size, 0, none⟩) hlt0).trans c0, ((p1.alloc _).cell (p := ⟨w.heap.size, 1, none⟩) hlt0).trans c1⟩
        | exact ⟨(((p2.setCell (p := ⟨W0.heap.size, 0, none⟩) (Nat.le_refl _) _).setCell (p := ⟨W0.heap.size, 1, none⟩) (Nat.le_refl _) _).cell (p := ⟨w.heap.size, 0, none⟩) hlt0).trans c0, (((p2.setCell (p := ⟨W0.heap.size, 0, none⟩) (Nat.le_refl _) _).setCell (p := ⟨W0.heap.size, 1, none⟩) (Nat.le_refl _) _).cell (p := ⟨w.heap.size, 1, none⟩) hlt0).trans c1⟩
        | exact ⟨(((p2.setCell (p := ⟨w1.heap.size, 0, none⟩) p1.size _).setCell (p := ⟨w1.heap.size, 1, none⟩) p1.size _).cell (p := ⟨w.heap.size, 0, none⟩) hlt0).trans c0, (((p2.setCell (p := ⟨w1.heap.size, 0, none⟩) p1.size _).setCell (p := ⟨w1.heap.size, 1, none⟩) p1.size _).cell (p := ⟨w.heap.size, 1, none⟩) hlt0).trans c1⟩)
      (first
        | (go_at_call 80; refine (cloneK_any _ _ _ vs _ Hvl.out.symm (by first | exact HVS.out | exact (HVS.out.keep ((Q.refl W0).alloc _)).more (by simp)) Hv1.out (by have := Hvl.out; omega)).mono ?_; rintro e w1 ⟨A1, c1', rfl, hc1, hA1, q1⟩; have HA1 := Lib.hid hA1; clear hA1; have p1 : Q W0 w1 := (by first | exact (Q.refl W0).drew.trans q1 | exact ((Q.refl W0).drew.alloc _).trans q1); (first | have bx : BoxF w1 W0.heap.size := (BoxF.new W0.drew 26).q q1 | skip))
        | (go_at_call 68; refine (cloneV_any _ _ _ (cellsI sl) _ (by simp [cellsI]) (by first | exact (HSS.out.keep p1).more p1.size | exact (HSS.out.keep (p1.alloc _)).more (p1.alloc _).size) (cellsI_one sl) (by simpa [cellsI] using hsl)).mono ?_; rintro e w2 ⟨A2, c2', rfl, hc2, hA2, q2⟩; have HA2 := Lib.hid hA2; clear hA2; have p2 : Q W0 w2 := (by first | exact p1.trans q2 | exact (p1.alloc _).trans q2); (first | (have bx2 := bx.q q2; have y0 := bx2.c0; have y1 := bx2.c1; have z0 := bx2.f0; have z1 := bx2.f1) | (have bx2 := (BoxF.new w1 26).q q2; have y0 := bx2.c0; have y1 := bx2.c1; have z0 := bx2.f0; have z1 := bx2.f1) | skip)))
    · go_wp2_with fail
      go_meet
      refine ⟨w2.heap.size, A1, c1', A2, c2', rfl, cp_close (W0 := W0) (w1 := w1) (w2 := w2) HB.out p1 q2 hc1 Hvl.out (cellsI_len sl) Hvl.out Hvv.out HA1.out HA2.out (Nat.le_refl _) (Nat.le_refl _) (.inr q2.size) (.inr (Nat.le_refl _)) p2.size (by simp) (by simp) (by simp) (by simp) (fun p _ hp => ⟨((Q.refl w2).alloc _).cell hp, ((Q.refl w2).alloc _).frozen hp⟩) ((q0.trans p2).alloc _)⟩
    · go_wp2_with fail
      go_meet
      have q12 : Q w1 w2 := ((Q.refl w1).alloc _).trans q2
      refine ⟨w1.heap.size, A1, c1', A2, c2', rfl, cp_close (W0 := W0) (w1 := w1) (w2 := w2) HB.out p1 q12 hc1 Hvl.out (cellsI_len sl) Hvl.out Hvv.out HA1.out HA2.out (Nat.le_refl _) (by simp) (.inr (Nat.le_refl _)) (.inl (by simp)) p1.size (setCell_ne (by omega) (setCell_eq y0)) (setCell_eq (setCell_ne (by omega) y1)) (by have := bx2.lt; simpa [World.setCell] using this) (by simp [World.setCell]) (fun p hp _ => ⟨set_two_other _ _ _ _ _ hp, by simp only [World.frozen?_setCell]⟩) (((q0.trans p2).setCell (p := ⟨w1.heap.size, 0, none⟩) (q0.trans p1).size _).setCell (p := ⟨w1.heap.size, 1, none⟩) (q0.trans p1).size _)⟩
    · go_wp2_with fail
      go_meet
      refine ⟨W0.heap.size, A1, c1', A2, c2', rfl, cp_close (W0 := W0) (w1 := w1) (w2 := w2) HB.out p1 q2 hc1 Hvl.out (cellsI_len sl) Hvl.out Hvv.out HA1.out HA2.out (by show _ ≤ (W0.alloc _).heap.size; simp) (Nat.le_refl _) (.inl (by show _ < (W0.alloc _).heap.size; simp)) (.inl bx.lt) (Nat.le_refl _) (setCell_ne (by omega) (setCell_eq y0)) (setCell_eq (setCell_ne (by omega) y1)) (by have := bx2.lt; simpa [World.setCell] using this) (by simp [World.setCell]) (fun p hp _ => ⟨set_two_other _ _ _ _ _ hp, by simp only [World.frozen?_setCell]⟩) (((q0.trans p2).setCell (p := ⟨W0.heap.size, 0, none⟩) q0.size _).setCell (p := ⟨W0.heap.size, 1, none⟩) q0.size _)⟩
  case rest =>
    obtain ⟨B, A1, c1, S1, d1, rfl, hC⟩ := hcut
    have HC := Lib.hid hC
    have b0 := hC.b0
    clear hC HB HVS HSS HSw Hv1 Hvl Hvv
    go_wp2_with fail
    go_loopw [4, 5, 16] (fun _ _ i wr => ∃ k : Nat, k ≤ ks.length ∧ i = .int .i64 k ∧ Hid (Cp w wr B A1 c1 S1 d1 ks sl k)) (fun _ _ i _ => ks.length - (intOf i).toNat)
    case atStart => exact ⟨0, Nat.zero_le _, rfl, HC⟩
    case round =>
      clear b0 HC
      obtain ⟨k, hkl, rfl, HC⟩ := hrel
      have b0 := HC.out.b0
      have hBl := HC.out.lt
      by_cases hlt : k < ks.length
      · obtain ⟨g, rfl, hg, hgr, hgB, hK, _⟩ := HC.out.keys (by omega)
        obtain ⟨_, a, ca, hle, c0, hI, _⟩ := hK k ks[k] (List.getElem?_eq_getElem hlt)
        have HI := Lib.hid hI.ints.srcB
        have Hlk := Lib.hid (HsM.out _ (List.getElem_mem hlt))
        clear hI hK
        go_wp2_with fail
        go_region_held3 (fun w' => w'.cell? ⟨B, 0, none⟩ = some (.slice (some ⟨g, 0, none⟩) ks.length c1))
          (first
            | go_keep
            | exact (p3.cell (p := ⟨B, 0, none⟩) hBl).trans b0
            | exact (World.cell?_setCell_far _ _ _ _ hgB).trans ((p3.cell (p := ⟨B, 0, none⟩) hBl).trans b0))
          (first
            | (go_at_call 68; refine (cloneN_any _ _ _ ks[k] _ rfl (by exact HI.out) Hlk.out).mono ?_; rintro e w3 ⟨A3, c3, rfl, hc3, hA3, q3⟩; have HA3 := Lib.hid hA3; clear hA3; have p3 : Q wr w3 := (Q.refl wr).drew.trans q3; have HC3 := Lib.hid (HC.out.more p3); obtain ⟨v3, k3, f3⟩ := Cp.cellAt HC3.out hlt))
        go_wp2_with fail
        go_roundw
        case rel =>
          refine ⟨k + 1, by omega, by go_num, Lib.hid ?_⟩
          have hqw := HC.out.q.size
          refine HC3.out.set hlt hc3 (fun h0 => ?_) (fun h0 ad e => by obtain ⟨g3, e3, hg3, _⟩ := HA3.out h0; have hgl : wr.heap.size ≤ g3 := hg3; rw [e] at e3; injection e3 with e3; subst e3; show _ ≤ g3; omega)
          obtain ⟨g3, e3, hg3, hl3, hcc⟩ := HA3.out h0
          have hgl : wr.heap.size ≤ g3 := hg3
          exact ⟨_, e3, hl3, by show g3 ≠ g; omega, by show g3 ≠ _; omega, fun i x hx => by rw [add_zero_head]; exact hcc i x hx⟩
        case measure => simp [intOf]; omega
      · obtain ⟨v0, r0⟩ := HC.out.r0
        obtain ⟨v1, r1⟩ := HC.out.r1
        have b1 := HC.out.b1
        have f0 := HC.out.f0
        have f1 := HC.out.f1
        have hfar := HC.out.far
        go_wp2_with fail
        have y0 := setCell_ne (W := wr.setCell ⟨w.heap.size + 1, 0, none⟩ (.slice A1 ks.length c1)) (B := w.heap.size + 1) (i := 1) (j := 0) (v := .slice S1 sl.length d1) (by omega) (setCell_eq r0)
        have y1 := setCell_eq (W := wr.setCell ⟨w.heap.size + 1, 0, none⟩ (.slice A1 ks.length c1)) (B := w.heap.size + 1) (i := 1) (v := .slice S1 sl.length d1) (setCell_ne (by omega) r1)
        have hz : ((wr.setCell ⟨w.heap.size + 1, 0, none⟩ (.slice A1 ks.length c1)).setCell ⟨w.heap.size + 1, 1, none⟩ (.slice S1 sl.length d1)).heap.size = wr.heap.size := by simp [World.setCell]
        refine bodyPost_ret (v := .agg #[.slice A1 ks.length c1, .slice S1 sl.length d1]) (by simp [results, Tryz.f47, go_sem, y0, y1]) rfl ⟨A1, c1, S1, d1, rfl, fun W hW => ⟨fun h0 => ?_, ?_⟩, (HC.out.q.setCell (p := ⟨w.heap.size + 1, 0, none⟩) (by show _ ≤ w.heap.size + 1; omega) _).setCell (p := ⟨w.heap.size + 1, 1, none⟩) (by show _ ≤ w.heap.size + 1; omega) _, HC.out.cap⟩
        · obtain ⟨g, rfl, hg, hgr, hgB, hK, _⟩ := HC.out.keys h0
          obtain rfl : k = ks.length := by omega
          exact ((hK.setR (by omega) 0 _).setR (by omega) 1 _).keys (by rw [hz]; exact hg) (by omega) hW h0
        · exact ((HC.out.slots.set (.inr rfl) _).set (.inr rfl) _).world HC.out.lo hW
end Go.Proofs.YtdmdcggmgipdbaaGreatDoor.Tm

namespace Go.Proofs.YtdmdcggmgipdbaaGreatDoor.Ld
open Go.RowKit Kit Rw
open Go.Proofs.YtdmdcggmgipdbaaGreatDoor.Ex (cellsS)
theorem stringInfoC : (Tryz.prog.info? 9).map (fun i => (i.zero, i.size, i.bytes)) = some (some (.string ⟨#[]⟩), 1, 16) := by kernel_rfl
def OwnS (base : Nat) (l : List ByteArray) (w : World) (e : Ending) (w' : World) : Prop := ∃ v, e = .returned v ∧ w'.ownsRow base 9 1 v l.length (cellsS l) ∧ Q w w'
set_option maxHeartbeats 1000000 in
theorem clone_str (A : Option Addr) (n c : Nat) (l : List ByteArray) (w : World) (hn : n = l.length) (hr : Rds w w.heap.size A (cellsS l)) (hl : l.length ≤ 100000) :
    Calls Tryz.prog 48 #[.slice A n c] w (OwnS w.heap.size l w) := by
  subst hn
  have heq := fun u => Lib.run_eql_slice_nil (P := Tryz.prog) u 27 9 A l.length c 0 0 Tryz.underlying27
  cases A with
  | none =>
    have e : l = [] := by
      rcases Nat.eq_zero_or_pos l.length with h | h
      · exact List.eq_nil_of_length_eq_zero h
      · obtain ⟨_, e, _⟩ := hr (by simpa [cellsS] using h); cases e
    subst e
    have heq' : ∀ u, (binOp .eql 27 (.slice none 0 c) (.slice none 0 0)).run Tryz.prog u = .ok (.bool true) u := heq
    clear heq hr hl
    go_enter Tryz.func48, Tryz.ntmps48
    go_wp2_with fail
    go_ret
    exact ⟨_, rfl, own_nil _ _ _ _, Q.refl _⟩
  | some ad =>
    have heq' : ∀ u, (binOp .eql 27 (.slice (some ad) l.length c) (.slice none 0 0)).run Tryz.prog u = .ok (.bool false) u := heq
    obtain ⟨i0, hi, hz0, hz1, hz2⟩ := info_parts stringInfoC
    have Hi := Lib.hid hi
    have Hz0 := Lib.hid hz0
    have Hz1 := Lib.hid hz1
    have Hz2 := Lib.hid hz2
    have Hs := Lib.hid (hr.q ((Q.refl w).alloc (Obj.cells #[] 9))).src
    have Ho := Lib.hid (own_empty (base := w.heap.size) (e := 9) (size := 1) (Nat.le_refl _) (heap_alloc_new w (Obj.cells #[] 9)))
    have H1 : Hid (∀ u ∈ cellsS l, u.oneCell' = true) := Lib.hid (by simp [cellsS, Value.oneCell'])
    clear heq hi hz0 hz1 hz2 hr
    go_enter Tryz.func48, Tryz.ntmps48
    go_wp2_with (at_builtin; refine wpList_append_src _ rfl (.tmp 5) (.tmp 6) _ rfl w.heap.size 9 i0 _ 1 16 Tryz.underlying27 Hi.out Hz0.out Hz1.out Hz2.out rfl (by omega) (.slice (some ⟨w.heap.size, 0, none⟩) 0 0) 0 [] rfl Ho.out (some ad) l.length c (cellsS l) rfl (by simp [cellsS]) Hs.out H1.out (by unfold maxLen; omega) (by omega) (by simp) ?_; intro v' w' own' gr' _)
    have q2 : Q w w' := ((Q.refl w).alloc (Obj.cells #[] 9)).grown gr' (by simp) (by simp [Value.ownBlock])
    rw [Nat.zero_add, List.nil_append] at own'
    have Ho' := Lib.hid own'
    clear own' gr'
    go_wp2_with fail
    go_ret
    exact ⟨_, rfl, Ho'.out, q2⟩
end Go.Proofs.YtdmdcggmgipdbaaGreatDoor.Ld

namespace Go.Proofs.YtdmdcggmgipdbaaGreatDoor.Ld
open Go.RowKit Kit Rw
open Go.Proofs.YtdmdcggmgipdbaaGreatDoor.Sg (Sig Row findI)
open Go.Proofs.YtdmdcggmgipdbaaGreatDoor.Hs (Keys Ints layI BoxT)
open Go.Proofs.YtdmdcggmgipdbaaGreatDoor.Ex (atS atS_neg cellsS cellsI own_slice str_at own_new)
theorem dst_out {l : List ByteArray} (h : Dst l) {k : Nat} (hk : k < l.length) : atS l[k] (l.take k) 0 < 0 := by
  rw [atS_neg]
  intro hm
  obtain ⟨j, hj, he⟩ := List.getElem_of_mem hm
  rw [List.length_take] at hj
  rw [List.getElem_take] at he
  have := h j k l[k] (by rw [List.getElem?_eq_getElem (by omega), he]) (List.getElem?_eq_getElem hk)
  omega
def BeginPost (R : Option Addr) (nl cl : Nat) (A S : Option Addr) (n c m d : Nat) (names : List ByteArray) (limit : Int) (w : World) (e : Ending) (w' : World) : Prop :=
  ∃ A4 c4 b, e = .returned (.agg #[.slice R nl cl, .slice A n c, .slice S m d, .slice A4 names.length c4, .map (some b), .int .i64 limit, .slice none 0 0]) ∧ w'.ownsRow w.heap.size 9 1 (.slice A4 names.length c4) names.length (cellsS names) ∧ NumM w' b names.length (numF names) ∧ w.heap.size ≤ b ∧ Q w w'
set_option maxRecDepth 100000 in
set_option maxHeartbeats 4000000 in
theorem begin9_any (R A S Bn : Option Addr) (nl cl c d nb cb : Nat) (ks : List (List Int)) (names : List ByteArray) (limit : Int) (w : World) (hnb : nb = names.length) (hN : Rds w w.heap.size Bn (cellsS names)) (hd : Dst names) (hl : names.length ≤ 100000) (hs : ∀ a ∈ names, a.size ≤ 1000) :
    Calls Tryz.prog 45 #[.slice R nl cl, .agg #[.slice A ks.length c, .slice S (layI ks).length d], .slice Bn nb cb, .int .i64 limit] w (BeginPost R nl cl A S ks.length c (layI ks).length d names limit w) := by
  subst hnb
  have hmm := @run_makeMap Tryz.prog
  have q2 := ((Q.refl w).alloc (Obj.cells #[Value.slice A ks.length c, Value.slice S (layI ks).length d] 26)).alloc (Obj.cells #[.slice none 0 0, .slice none 0 0, .slice none 0 0, .slice none 0 0, .map none, .int .i64 0, .slice none 0 0] 88)
  have e1 : (w.alloc (Obj.cells #[Value.slice A ks.length c, Value.slice S (layI ks).length d] 26)).heap.size = w.heap.size + 1 := by simp
  have HB0 := Lib.hid ((BoxT.new w (Value.slice A ks.length c) (Value.slice S (layI ks).length d) 26).q ((Q.refl _).alloc (Obj.cells #[.slice none 0 0, .slice none 0 0, .slice none 0 0, .slice none 0 0, .map none, .int .i64 0, .slice none 0 0] 88)))
  have hL0 := own_new (w.alloc (Obj.cells #[Value.slice A ks.length c, Value.slice S (layI ks).length d] 26)) [.slice none 0 0, .slice none 0 0, .slice none 0 0, .slice none 0 0, .map none, .int .i64 0, .slice none 0 0] 88
  rw [e1] at hL0
  have HL0 := Lib.hid hL0
  change Hid (OwnC ((w.alloc (Obj.cells #[Value.slice A ks.length c, Value.slice S (layI ks).length d] 26)).alloc (Obj.cells #[.slice none 0 0, .slice none 0 0, .slice none 0 0, .slice none 0 0, .map none, .int .i64 0, .slice none 0 0] 88)) (w.heap.size + 1) [.slice none 0 0, .slice none 0 0, .slice none 0 0, .slice none 0 0, .map none, .int .i64 0, .slice none 0 0]) at HL0
  have HN0 := Lib.hid (hN.q q2)
  have HQ2 := Lib.hid q2
  have HD := Lib.hid hd
  have HS := Lib.hid hs
  have e2 : ((w.alloc (Obj.cells #[Value.slice A ks.length c, Value.slice S (layI ks).length d] 26)).alloc (Obj.cells #[.slice none 0 0, .slice none 0 0, .slice none 0 0, .slice none 0 0, .map none, .int .i64 0, .slice none 0 0] 88)).heap.size = w.heap.size + 1 + 1 := by simp
  have HE2 := Lib.hid e2
  clear hN q2 e1 hL0 hd hs e2
  go_enter Tryz.func45, Tryz.ntmps45
  go_wp2_with fail
  generalize (w.alloc (Obj.cells #[Value.slice A ks.length c, Value.slice S (layI ks).length d] 26)).alloc (Obj.cells #[.slice none 0 0, .slice none 0 0, .slice none 0 0, .slice none 0 0, .map none, .int .i64 0, .slice none 0 0] 88) = W2 at *
  obtain ⟨b, hb⟩ : ∃ b, b = w.heap.size + 1 + 1 := ⟨_, rfl⟩
  rw [← hb] at HE2 ⊢
  have HM0 := Lib.hid (num_made W2)
  rw [HE2.out] at HM0
  have qm := (Q.refl W2).alloc (.map #[] 0)
  have HB1 := Lib.hid (HB0.out.q qm)
  have HL1 := Lib.hid (HL0.out.q qm)
  have HN1 := Lib.hid (HN0.out.q qm)
  have HQ1 := Lib.hid (HQ2.out.trans qm)
  have HBw : Hid (w.heap.size ≤ b ∧ w.heap.size + 1 ≠ b ∧ w.heap.size ≠ b) := by unfold Hid; omega
  have HKeepN : Hid (∀ W, Q w W → True) := fun _ _ => trivial
  clear hmm HM0 HB0 HL0 HN0 HQ2 qm hb HKeepN
  have HM1 := Lib.hid (num_made W2)
  rw [HE2.out] at HM1
  generalize W2.alloc (.map #[] 0) = W3 at *
  go_loopw [15] (fun i wr => ∃ k : Nat, k ≤ names.length ∧ i = .int .i64 k ∧ Hid (NumM wr b k (numF (names.take k))) ∧ Hid (BoxT wr w.heap.size (Value.slice A ks.length c) (Value.slice S (layI ks).length d)) ∧ Hid (OwnC wr (w.heap.size + 1) [.slice none 0 0, .slice none 0 0, .slice none 0 0, .slice none 0 0, .map none, .int .i64 0, .slice none 0 0]) ∧ Hid (Rds wr wr.heap.size Bn (cellsS names)) ∧ Hid (Q w wr)) (fun i _ => names.length - (intOf i).toNat)
  case atStart => exact ⟨0, Nat.zero_le _, rfl, Lib.hid (HM1.out.congr fun x => by simp [numF, atS]), HB1, HL1, HN1, HQ1⟩
  case round =>
    obtain ⟨k, hk, rfl, HM, HBx, HBl, HNr, HQw⟩ := hrel
    clear HM1 HB1 HL1 HN1 HQ1
    by_cases hlt : k < names.length
    · obtain ⟨ad, rfl, hbk, c0⟩ := str_at HNr.out hlt
      have hsz := HS.out names[k] (List.getElem_mem hlt)
      have hout := dst_out HD.out hlt
      have htl : (names.take k).length = k := by rw [List.length_take]; omega
      have htk : names.take (k + 1) = names.take k ++ [names[k]] := by rw [List.take_succ_eq_append_getElem hlt]
      have hsn := numF_snoc (names.take k) names[k] hout
      rw [htl, ← htk] at hsn
      obtain ⟨w4, hput, hM4, hg4⟩ := num_put HM.out names[k] (k : Int) (by omega) (by omega) (WalkArith.wf_i64 ⟨by omega, by omega⟩)
      have HM4 := Lib.hid (hM4.congr fun x => (hsn x).symm)
      have HBx4 := Lib.hid (box_grown HBx.out hg4 HBw.out.2.2)
      have HBl4 := Lib.hid (HBl.out.grown hg4 (fun e => HBw.out.2.1 (by injection e with e; exact e.symm)))
      have HQ4 : Hid (Q w w4) := Below.grown HQw.out hg4 HQw.out.size (fun i e => by injection e with e; subst e; exact HBw.out.1)
      have HN4 : Hid (Rds w4 w4.heap.size (some ad) (cellsS names)) := fun h0 => by
        obtain ⟨ad', e, hlt', hc⟩ := HNr.out h0
        refine ⟨ad', e, Nat.lt_of_lt_of_le hlt' hg4.size, fun j x hx => ?_⟩
        have hne : ad'.block ≠ b := fun hbb => by
          have := hc j x hx
          rw [num_noCell HM.out (by rw [Rw.add_block]; exact hbb)] at this
          cases this
        exact (World.cell?_of_block (a := ad'.add j) (hg4.block _ (by rw [Rw.add_block]; exact hlt') (fun e => hne (by injection e with e; rw [Rw.add_block] at e; exact e)))).trans (hc j x hx)
      generalize names[k] = s at *
      clear hout htl htk hsn hM4 hg4 HM HNr
      go_wp2_with fail
      go_roundw
      case rel => exact ⟨k + 1, by omega, by go_num, HM4, HBx4, HBl4, HN4, HQ4⟩
      case measure => simp [intOf]; omega
    · have hkx : names.take k = names := List.take_of_length_le (by omega)
      rw [hkx] at HM
      have hk2 : k = names.length := by omega
      rw [hk2] at HM
      have HCl : Hid (∀ W, Q wr W → Calls Tryz.prog 48 #[.slice Bn names.length cb] W (OwnS W.heap.size names W)) := fun W q => clone_str Bn names.length cb names W rfl (HNr.out.q q) hl
      have hb0 := HBx.out.c0
      have hb1 := HBx.out.c1
      clear hkx hk2
      go_wp2_with fail
      refine begin_t (S := fun w' => w'.cell? ⟨w.heap.size, 0, none⟩ = some (.slice A ks.length c) ∧ w'.cell? ⟨w.heap.size, 1, none⟩ = some (.slice S (layI ks).length d)) (z := 7) (by kernel_rfl) ?_ (fun hHeld => ?_)
      · exact ⟨hb0, hb1⟩
      refine take_t (i := 0) (d := some 24) (v := ?_) rfl (by kernel_rfl) (by kernel_rfl) (by kernel_rfl) (by kernel_rfl) (fun _ _ _ h => h) rfl (by rfl) ?_ (by assumption) ?_
      rotate_left
      · (intro w hSw; (try dsimp only at hSw); go_simp; (try with_reducible rfl))
      try simp only [Act.put, List.setIfInBounds_toArray, List.set_cons_zero, List.set_cons_succ]
      refine take_t (i := 1) (d := some 25) (v := ?_) rfl (by kernel_rfl) (by kernel_rfl) (by kernel_rfl) (by kernel_rfl) (fun _ _ _ h => h) rfl (by rfl) ?_ (by assumption) ?_
      rotate_left
      · (intro w hSw; (try dsimp only at hSw); go_simp; (try with_reducible rfl))
      try simp only [Act.put, List.setIfInBounds_toArray, List.set_cons_zero, List.set_cons_succ]
      refine take_t (i := 2) (d := some 26) (v := ?_) rfl (by kernel_rfl) (by kernel_rfl) (by kernel_rfl) (by kernel_rfl) (fun _ _ _ h => h) rfl (by rfl) ?_ (by assumption) ?_
      rotate_left
      · (intro w hSw; (try dsimp only at hSw); go_simp; (try with_reducible rfl))
      try simp only [Act.put, List.setIfInBounds_toArray, List.set_cons_zero, List.set_cons_succ]
      refine take_t (i := 4) (d := some 28) (v := ?_) rfl (by kernel_rfl) (by kernel_rfl) (by kernel_rfl) (by kernel_rfl) (fun _ _ _ h => h) rfl (by rfl) ?_ (by assumption) ?_
      rotate_left
      · (intro w hSw; (try dsimp only at hSw); go_simp; (try with_reducible rfl))
      try simp only [Act.put, List.setIfInBounds_toArray, List.set_cons_zero, List.set_cons_succ]
      refine take_t (i := 5) (d := some 29) (v := ?_) rfl (by kernel_rfl) (by kernel_rfl) (by kernel_rfl) (by kernel_rfl) (fun _ _ _ h => h) rfl (by rfl) ?_ (by assumption) ?_
      rotate_left
      · (intro w hSw; (try dsimp only at hSw); go_simp; (try with_reducible rfl))
      try simp only [Act.put, List.setIfInBounds_toArray, List.set_cons_zero, List.set_cons_succ]
      refine call_t (i := 3) rfl (by kernel_rfl) (by rfl) (fun K hK => ?_)
      go_simp
      go_at_call 48
      refine (HCl.out _ (Q.refl wr).drew).mono ?_
      rintro e w4 ⟨v4, rfl, own4, q4⟩
      have HO4 := Lib.hid own4
      have Q4 := Lib.hid ((Q.refl wr).drew.trans q4)
      obtain ⟨A4, c4, hv4, _, _⟩ := own_read HO4.out
      subst hv4
      have hb4 := HBx.out.q Q4.out
      have hl4 := HBl.out.q Q4.out
      have hHeld : ((fun w' => w'.cell? ⟨w.heap.size, 0, none⟩ = some (.slice A ks.length c) ∧ w'.cell? ⟨w.heap.size, 1, none⟩ = some (.slice S (layI ks).length d)) : World → Prop) _ := ⟨hb4.c0, hb4.c1⟩
      refine hK.out _ _ (fun _ => hHeld) ?_
      clear hK K
      try simp only [Act.put, List.setIfInBounds_toArray, List.set_cons_zero, List.set_cons_succ]
      refine take_t (i := 6) (d := some 30) (v := ?_) rfl (by kernel_rfl) (by kernel_rfl) (by kernel_rfl) (by kernel_rfl) (fun _ _ _ h => h) rfl (by rfl) ?_ (by assumption) ?_
      rotate_left
      · (intro w hSw; (try dsimp only at hSw); go_simp; (try with_reducible rfl))
      try simp only [Act.put, List.setIfInBounds_toArray, List.set_cons_zero, List.set_cons_succ]
      refine call_t (i := 7) rfl (by kernel_rfl) (by rfl) (fun K hK => ?_)
      have l0 := (hl4.2 0 _ rfl).1
      have l1 := (hl4.2 1 _ rfl).1
      have l2 := (hl4.2 2 _ rfl).1
      have l3 := (hl4.2 3 _ rfl).1
      have l4 := (hl4.2 4 _ rfl).1
      have l5 := (hl4.2 5 _ rfl).1
      have l6 := (hl4.2 6 _ rfl).1
      have m0 := (hl4.2 0 _ rfl).2
      have m1 := (hl4.2 1 _ rfl).2
      have m2 := (hl4.2 2 _ rfl).2
      have m3 := (hl4.2 3 _ rfl).2
      have m4 := (hl4.2 4 _ rfl).2
      have m5 := (hl4.2 5 _ rfl).2
      have m6 := (hl4.2 6 _ rfl).2
      go_simp
      refine hK.out _ _ (fun hz => by cases hz) ?_
      clear hK K
      try simp only [Act.put, List.setIfInBounds_toArray, List.set_cons_zero, List.set_cons_succ]
      refine done_t (by kernel_rfl) ?_ _
      have hL5 := (((((((hl4.set (s := 0) (by simp) (.slice R nl cl)).set (s := 1) (by simp) (.slice A ks.length c)).set (s := 2) (by simp) (.slice S (layI ks).length d)).set (s := 3) (by simp) (.slice A4 names.length c4)).set (s := 4) (by simp) (.map (some b))).set (s := 5) (by simp) (.int .i64 limit)).set (s := 6) (by simp) (.slice none 0 0))
      have hg7 : w4.grownBy (((((((w4.setCell ⟨w.heap.size + 1, 0, none⟩ (.slice R nl cl)).setCell ⟨w.heap.size + 1, 1, none⟩ (.slice A ks.length c)).setCell ⟨w.heap.size + 1, 2, none⟩ (.slice S (layI ks).length d)).setCell ⟨w.heap.size + 1, 3, none⟩ (.slice A4 names.length c4)).setCell ⟨w.heap.size + 1, 4, none⟩ (.map (some b))).setCell ⟨w.heap.size + 1, 5, none⟩ (.int .i64 limit)).setCell ⟨w.heap.size + 1, 6, none⟩ (.slice none 0 0)) (some (w.heap.size + 1)) := grown_trans (grown_trans (grown_trans (grown_trans (grown_trans (grown_trans (setCell_grown _ _ _ _) (setCell_grown _ _ _ _)) (setCell_grown _ _ _ _)) (setCell_grown _ _ _ _)) (setCell_grown _ _ _ _)) (setCell_grown _ _ _ _)) (setCell_grown _ _ _ _)
      have qF : Q w (((((((w4.setCell ⟨w.heap.size + 1, 0, none⟩ (.slice R nl cl)).setCell ⟨w.heap.size + 1, 1, none⟩ (.slice A ks.length c)).setCell ⟨w.heap.size + 1, 2, none⟩ (.slice S (layI ks).length d)).setCell ⟨w.heap.size + 1, 3, none⟩ (.slice A4 names.length c4)).setCell ⟨w.heap.size + 1, 4, none⟩ (.map (some b))).setCell ⟨w.heap.size + 1, 5, none⟩ (.int .i64 limit)).setCell ⟨w.heap.size + 1, 6, none⟩ (.slice none 0 0)) := ((((((((((((((HQw.out.trans Q4.out).setCell (p := ⟨w.heap.size + 1, 0, none⟩) (Nat.le_succ _) _)).setCell (p := ⟨w.heap.size + 1, 1, none⟩) (Nat.le_succ _) _)).setCell (p := ⟨w.heap.size + 1, 2, none⟩) (Nat.le_succ _) _)).setCell (p := ⟨w.heap.size + 1, 3, none⟩) (Nat.le_succ _) _)).setCell (p := ⟨w.heap.size + 1, 4, none⟩) (Nat.le_succ _) _)).setCell (p := ⟨w.heap.size + 1, 5, none⟩) (Nat.le_succ _) _)).setCell (p := ⟨w.heap.size + 1, 6, none⟩) (Nat.le_succ _) _)
      have own5 : (((((((w4.setCell ⟨w.heap.size + 1, 0, none⟩ (.slice R nl cl)).setCell ⟨w.heap.size + 1, 1, none⟩ (.slice A ks.length c)).setCell ⟨w.heap.size + 1, 2, none⟩ (.slice S (layI ks).length d)).setCell ⟨w.heap.size + 1, 3, none⟩ (.slice A4 names.length c4)).setCell ⟨w.heap.size + 1, 4, none⟩ (.map (some b))).setCell ⟨w.heap.size + 1, 5, none⟩ (.int .i64 limit)).setCell ⟨w.heap.size + 1, 6, none⟩ (.slice none 0 0)).ownsRow w.heap.size 9 1 (.slice A4 names.length c4) names.length (cellsS names) := by
        have hlt5 := HBl.out.1
        have hne : (Value.slice A4 names.length c4).ownBlock ≠ some (w.heap.size + 1) := fun e => by
          have h1 : wr.heap.size ≤ w.heap.size + 1 := (HO4.out.lt _ e).1
          omega
        exact (row_kept HO4.out (Q.refl _) HQw.out.size).kept hg7 (.inr hne)
      have hM5 : NumM (((((((w4.setCell ⟨w.heap.size + 1, 0, none⟩ (.slice R nl cl)).setCell ⟨w.heap.size + 1, 1, none⟩ (.slice A ks.length c)).setCell ⟨w.heap.size + 1, 2, none⟩ (.slice S (layI ks).length d)).setCell ⟨w.heap.size + 1, 3, none⟩ (.slice A4 names.length c4)).setCell ⟨w.heap.size + 1, 4, none⟩ (.map (some b))).setCell ⟨w.heap.size + 1, 5, none⟩ (.int .i64 limit)).setCell ⟨w.heap.size + 1, 6, none⟩ (.slice none 0 0)) b names.length (numF names) := num_grown (HM.out.q Q4.out) hg7 (fun e => HBw.out.2.1 e.symm)
      have y0 := (hL5.2 0 _ rfl).1
      have y1 := (hL5.2 1 _ rfl).1
      have y2 := (hL5.2 2 _ rfl).1
      have y3 := (hL5.2 3 _ rfl).1
      have y4 := (hL5.2 4 _ rfl).1
      have y5 := (hL5.2 5 _ rfl).1
      have y6 := (hL5.2 6 _ rfl).1
      clear hL5
      go_wp2_with fail
      generalize (((((((w4.setCell ⟨w.heap.size + 1, 0, none⟩ (.slice R nl cl)).setCell ⟨w.heap.size + 1, 1, none⟩ (.slice A ks.length c)).setCell ⟨w.heap.size + 1, 2, none⟩ (.slice S (layI ks).length d)).setCell ⟨w.heap.size + 1, 3, none⟩ (.slice A4 names.length c4)).setCell ⟨w.heap.size + 1, 4, none⟩ (.map (some b))).setCell ⟨w.heap.size + 1, 5, none⟩ (.int .i64 limit)).setCell ⟨w.heap.size + 1, 6, none⟩ (.slice none 0 0)) = WF at *
      exact bodyPost_ret (v := .agg #[.slice R nl cl, .slice A ks.length c, .slice S (layI ks).length d, .slice A4 names.length c4, .map (some b), .int .i64 limit, .slice none 0 0]) (by simp [results, Tryz.f45, go_sem, y0, y1, y2, y3, y4, y5, y6]) rfl ⟨_, _, b, rfl, own5, hM5, HBw.out.1, qF⟩
end Go.Proofs.YtdmdcggmgipdbaaGreatDoor.Ld
