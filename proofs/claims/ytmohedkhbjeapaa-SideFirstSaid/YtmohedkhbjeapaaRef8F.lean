/-
  Contract of the document's Of: the sides of nodes.
-/
import Derived.Test.YtmohedkhbjeapaaRef8E
import Derived.Deep.RegionHeld3
namespace Go.Proofs.Ytmohedkhbjeapaa.Ex
open Go.RowKit Kit Rw
open Go.Proofs.Ytmohedkhbjeapaa.Sg (Sig findI Row refFind_any)

def cells8 (l : List UInt8) : List Value := l.map fun b => Value.int .u8 (b.toNat : Int)
theorem cells8_len (l : List UInt8) : (cells8 l).length = l.length := by simp [cells8]
theorem cells8_at {l : List UInt8} {k : Nat} {b : UInt8} (h : l[k]? = some b) : (cells8 l)[k]? = some (.int .u8 (b.toNat : Int)) := by simp [cells8, h]
theorem cells8_set (l : List UInt8) (k : Nat) (b : UInt8) : cells8 (l.set k b) = (cells8 l).set k (.int .u8 (b.toNat : Int)) := by simp [cells8]
theorem own_set8 {w : World} {g : Nat} {o : List UInt8} (h : OwnC w g (cells8 o)) {k : Nat} (hk : k < o.length) (b : UInt8) : OwnC (w.setCell ⟨g, k, none⟩ (.int .u8 (b.toNat : Int))) g (cells8 (o.set k b)) := by
  rw [cells8_set]
  exact h.set (by rw [cells8_len]; exact hk) _
theorem byteInfo8 : (Try.prog.info? 5).map (fun i => (i.zero, i.size, i.bytes)) = some (some (.int .u8 0), 1, 1) := by kernel_rfl
theorem make_bytes (n : Nat) (hn : n ≤ 100000000) (u : World) : (Instr.makeSlice 31 (.int .i64 (n : Int)) (.int .i64 (n : Int))).run Try.prog u = .ok (.slice (some ⟨u.heap.size, 0, none⟩) n n) (u.alloc (.cells (madeCells #[.int .u8 0] n) 5)) := by
  obtain ⟨i0, hi, hz0, hz1, hz2⟩ := info_parts byteInfo8
  have h := run_make (P := Try.prog) u 31 5 i0 _ Try.underlying31 hi hz0 .i64 .i64 (n : Int) (n : Int) (by omega) (by omega) (by rw [hz2]; omega) (by omega)
  rw [hz1, Nat.mul_one] at h
  exact h
theorem own_made8 (w : World) (n : Nat) (t : TypeId) : OwnC (w.alloc (.cells (madeCells #[.int .u8 0] n) t)) w.heap.size (cells8 (List.replicate n 0)) := by
  refine ⟨by simp, fun i x hx => ?_⟩
  have hi : i < n := by have := (List.getElem?_eq_some_iff.1 hx).1; simpa [cells8] using this
  have e : x = .int .u8 0 := by rw [cells8, List.map_replicate, List.getElem?_replicate, if_pos hi] at hx; simpa using hx.symm
  subst e
  refine ⟨?_, World.frozen?_alloc_at _ _ _ _ rfl⟩
  rw [cell_of_row _ _ _ _ _ _ (heap_alloc_new w _)]
  simp [madeCells, hi, Nat.mod_one]
/-- the side of the whole -/
def side0 (s : UInt8) : UInt8 := if s = 76 ∨ s = 82 then s else 66
theorem put_same {F o : List UInt8} {p : Nat} {b : UInt8} (hp : p < o.length) (h : F[p]? = some b) : (∀ q : Nat, o[q]? = F[q]? → (o.set p b)[q]? = F[q]?) ∧ (o.set p b)[p]? = F[p]? := by
  refine ⟨fun q hq => ?_, by rw [List.getElem?_set_self hp, h]⟩
  by_cases e : p = q
  · subst e; rw [List.getElem?_set_self hp, h]
  · rw [List.getElem?_set_ne e]; exact hq
theorem rds_grown {w w' : World} {g : Nat} {A : Option Addr} {cs : List Value} (h : Rds w w.heap.size A cs) (gr : w.grownBy w' (some g)) (hne : ∀ ad, A = some ad → ad.block ≠ g) : Rds w' w'.heap.size A cs := fun h0 => by
  obtain ⟨ad, e, hlt, hc⟩ := h h0
  refine ⟨ad, e, Nat.lt_of_lt_of_le hlt gr.size, fun j v hv => ?_⟩
  have hb := gr.block ad.block hlt (fun e' => hne ad e (by injection e'))
  exact (World.cell?_of_block (a := ad.add j) (by rw [add_block]; exact hb)).trans (hc j v hv)
def OfPost (F : List UInt8) (w : World) (e : Ending) (w' : World) : Prop := ∃ g, e = .returned (.slice (some ⟨g, 0, none⟩) F.length F.length) ∧ OwnC w' g (cells8 F) ∧ w.heap.size ≤ g ∧ Q w w'

set_option maxRecDepth 100000 in
set_option maxHeartbeats 8000000 in
theorem refOf_any (A B : Option Addr) (m c n d : Nat) (L : List Sig) (l : List Tg) (x : Ex) (s : UInt8) (w : World) (hm : m = L.length) (hn : n = l.length) (hL : Row w w.heap.size A L) (hr : Rds w w.heap.size B (cellsG l)) (hl8 : L.length ≤ 1000) (hl : l.length ≤ 600) (hmay : ∀ t ∈ l, mayN t = true) (hs : runS [] l = some [x]) :
    Calls Try.prog 15 #[.slice A m c, .slice B n d, .int .u8 (s.toNat : Int)] w (OfPost (x.sides L (side0 s)) w) := by
  subst hm hn
  have hx : x.size = l.length := by
    have := run_sum (i := l.length) (by rw [List.take_length]; exact hs) (Nat.le_refl _)
    simpa [sumS] using this
  have hpos : 0 < l.length := by rw [← hx]; exact size_pos x
  have HL := Lib.hid hL
  have HR := Lib.hid hr
  have HM := Lib.hid hmay
  have HS := Lib.hid hs
  have CS := Lib.hid (starts_any B l.length d l [x] w rfl hr (by omega) hmay hs)
  have hmk := make_bytes l.length (by omega)
  have HX := Lib.hid hx
  clear hL hr hmay hs hx
  go_enter Try.func15, Try.ntmps15
  go_wp2_with (go_at_call 19; refine CS.out.mono ?_; rintro e w1 ⟨S1, k1, rfl, hk1, hS1, q1⟩; have HS1 := Lib.hid hS1; have HQ1 := Lib.hid q1; clear hS1 q1)
  have hO0 := own_made8 w1 l.length 5
  have hQ0 := (Q.refl w1).alloc (Obj.cells (madeCells #[.int .u8 0] l.length) 5)
  have HO0 := Lib.hid hO0
  have HQ0 := Lib.hid hQ0
  clear hO0 hQ0 hmk CS
  generalize w1.alloc (Obj.cells (madeCells #[.int .u8 0] l.length) 5) = W0 at *
  obtain ⟨g, hg⟩ : ∃ g, g = w1.heap.size := ⟨_, rfl⟩
  rw [← hg] at HO0 ⊢
  have HG := Lib.hid hg
  clear hg
  obtain ⟨F, hF⟩ : ∃ F, F = x.sides L (side0 s) := ⟨_, rfl⟩
  rw [← hF]
  have HF := Lib.hid hF
  have HFl : Hid (F.length = l.length) := by unfold Hid; rw [hF, sides_len]; exact HX.out
  clear hF
  go_loopw [9] (fun i wr => ∃ (k : Nat) (o : List UInt8), k ≤ l.length ∧ i = .int .i64 ((k : Int) - 1) ∧ Hid (OwnC wr g (cells8 o)) ∧ Hid (o.length = l.length) ∧ Hid (k = l.length ∨ Done l F o k) ∧ Hid (Q w1 wr)) (fun i _ => (intOf i + 1).toNat)
  case atStart => exact ⟨l.length, List.replicate l.length 0, Nat.le_refl _, rfl, HO0, by simp [Hid], Lib.hid (.inl rfl), HQ0⟩
  case round =>
    clear HO0 HQ0
    obtain ⟨k, o, hk, rfl, HO, HOl, HD, HQ⟩ := hrel
    rcases Nat.eq_zero_or_pos k with hk0 | hk0
    · subst hk0
      have hD : Done l F o 0 := HD.out.resolve_left (by omega)
      have hoF := hD.all
      rw [hoF] at HO
      have e1 : (((0 : Nat) : Int)) - 1 = -1 := rfl
      have HQf := Lib.hid (HQ1.out.trans HQ.out)
      have HGw : Hid (w.heap.size ≤ g) := by have := HQ1.out.size; have := HG.out; exact Lib.hid (by omega)
      clear hD hoF
      go_wp2_with fail
      go_ret
      exact ⟨g, by rw [← HF.out, HFl.out]; rfl, by rw [← HF.out]; exact HO.out, HGw.out, HQf.out⟩
    · obtain ⟨i, rfl⟩ : ∃ i, k = i + 1 := ⟨k - 1, by omega⟩
      have e1 : ((i + 1 : Nat) : Int) - 1 = (i : Int) := by omega
      obtain ⟨sk, hsk⟩ := run_take HS.out i
      have hil : i < l.length := by omega
      have hio : i < o.length := by rw [HOl.out]; exact hil
      obtain ⟨hc0, hf0⟩ := HO.out.2 i _ (cells8_at (List.getElem?_eq_getElem hio))
      have HSK := Lib.hid hsk
      by_cases hlast : i + 1 = l.length
      · have eI : ((i : Int) == (l.length : Int) - 1) = true := beq_iff_eq.2 (by omega)
        have hi1 : i = l.length - 1 := by omega
        have e76 : ((s.toNat : Int) == 76) = decide (s = 76) := byte_is s 76 (by decide)
        have e82 : ((s.toNat : Int) == 82) = decide (s = 82) := byte_is s 82 (by decide)
        have h66 : ((66 : UInt8).toNat : Int) = 66 := rfl
        have hOa := own_set8 HO.out hio 66
        rw [h66] at hOa
        have hio2 : i < (o.set i 66).length := by rw [List.length_set]; exact hio
        obtain ⟨hc1, hf1⟩ := hOa.2 i _ (cells8_at (b := 66) (by rw [List.getElem?_set_self hio]))
        rw [h66] at hc1
        have hQa : Q w1 (wr.setCell ⟨g, i, none⟩ (.int .u8 66)) := grown_q (setCell_grown _ _ _ _) HQ.out (by rw [HG.out]; exact Nat.le_refl _)
        have hQb : Q w1 ((wr.setCell ⟨g, i, none⟩ (.int .u8 66)).setCell ⟨g, i, none⟩ (.int .u8 (s.toNat : Int))) := grown_q (setCell_grown _ _ _ _) hQa (by rw [HG.out]; exact Nat.le_refl _)
        have hOb := own_set8 hOa hio2 s
        rw [e1]
        by_cases h76 : s = 76 ∨ s = 82
        · have HDz : Hid (Done l F ((o.set i 66).set i s) (i + 1)) := by
            unfold Hid
            rw [hlast, HF.out]
            refine Done.first L (side0 s) HS.out (by rw [List.length_set, List.length_set]; exact HOl.out) ?_
            rw [← hi1, List.getElem?_set_self hio2]
            unfold side0
            rw [if_pos h76]
          have HOz := Lib.hid hOb
          have HQz := Lib.hid hQb
          have HOlz : Hid (((o.set i 66).set i s).length = l.length) := by unfold Hid; rw [List.length_set, List.length_set]; exact HOl.out
          have e76' : ((s.toNat : Int) == 76) = true ∨ (((s.toNat : Int) == 76) = false ∧ ((s.toNat : Int) == 82) = true) := by
            rw [e76, e82]
            by_cases h : s = 76
            · exact .inl (decide_eq_true h)
            · exact .inr ⟨decide_eq_false h, decide_eq_true (h76.resolve_left h)⟩
          clear e76 e82 h76 hOa hOb hQa hQb hlast hsk HD hi1 h66
          generalize (o.set i 66).set i s = oz at *
          rcases e76' with e76 | ⟨e76, e82⟩
          all_goals
            go_upto_region 10 with fail
            generalize (wr.setCell ⟨g, i, none⟩ (.int .u8 66)).setCell ⟨g, i, none⟩ (.int .u8 (s.toNat : Int)) = Wz at *
            clear hc0 hf0 hc1 hf1 HO HOl HQ hio hio2
            have CK := Lib.hid (kids2_any B S1 l.length d l.length k1 l [x] i sk Wz rfl rfl (HR.out.q (HQ1.out.trans HQz.out)) (HS1.out.q HQz.out) (by omega) HM.out HS.out hil HSK.out)
            obtain ⟨t, ht, hkid⟩ := sides_kid L HS.out (side0 s) hil HSK.out
            rw [← HF.out] at ht hkid
            have hti := (HDz.out.at_ hil HS.out).trans ht
            have Hti := Lib.hid hti
            have Ht := Lib.hid ht
            have Hkid := Lib.hid hkid
            obtain ⟨sn, hsn⟩ := run_take HS.out (i + 1)
            obtain ⟨hnp, _⟩ := run_next hil HSK.out hsn
            clear ht hkid hti hsn
            go_wp2_with (go_at_call 31; refine CK.out.mono ?_; rintro e w5 ⟨B5, k5, K, rfl, hk5, hR5, hE5, hK5, hB5, q5⟩; have HR5 := Lib.hid hR5; have HE5 := Lib.hid hE5; have HK5 := Lib.hid hK5; have HQ5 := Lib.hid (HQz.out.trans q5); have HO5 := Lib.hid (HOz.out.q q5); have HB5 : Hid (∀ ad, B5 = some ad → ad.block ≠ g) := Lib.hid (fun ad e => by have h1 := hB5 ad e; have h2 := HOz.out.1; omega); clear hR5 hE5 hK5 hB5 q5)
            have hKl : K.length = np l[i] := by rw [HE5.out.len, List.length_reverse, List.length_take]; omega
            have HKl := Lib.hid hKl
            have h8 := (parts_nat (HM.out l[i] (List.getElem_mem hil))).2
            clear hKl CK
            go_loopw [11] (fun jj wr2 => ∃ (kk : Nat) (o2 : List UInt8), kk ≤ np l[i] ∧ jj = .int .i64 kk ∧ Hid (OwnC wr2 g (cells8 o2)) ∧ Hid (o2.length = l.length) ∧ Hid (∀ p : Nat, oz[p]? = F[p]? → o2[p]? = F[p]?) ∧ Hid (∀ (q : Nat) (hq : q < K.length), q < kk → o2[K[q]]? = F[K[q]]?) ∧ Hid (w5.grownBy wr2 (some g)) ∧ Hid (Q w1 wr2)) (fun jj _ => np l[i] - (intOf jj).toNat)
            case atStart => exact ⟨0, oz, Nat.zero_le _, rfl, HO5, HOlz, Lib.hid (fun _ h => h), Lib.hid (fun q hq h => absurd h (Nat.not_lt_zero _)), World.grownBy.refl _ _, HQ5⟩
            case round =>
              clear HO5 HQ5
              obtain ⟨kk, o2, hkk, rfl, HO2, HO2l, HP2, HK2, HG2, HQ2⟩ := hrel
              by_cases hlt : kk < np l[i]
              · have hkK : kk < K.length := by rw [HKl.out]; exact hlt
                have hKi := (HE5.out.each kk hkK (by rw [← HE5.out.len]; exact hkK)).1
                obtain ⟨kd, hkd, hkb, hkc⟩ := nat_at (rds_grown HR5.out HG2.out HB5.out) hkK
                have hy : F[K[kk]]? = some (turnB t (varyB L l[i] kk)) := by
                  have h1 := Hkid.out kk (by rw [← HK5.out]; exact hkK)
                  simpa only [← HK5.out] using h1
                have Hy := Lib.hid hy
                have hq2 : Q w wr := HQ1.out.trans HQ2.out
                obtain ⟨ad, hBe, hb, c0, c1, c2⟩ := tok_at (HR.out.q hq2) hil
                subst hBe hkd
                have hti2 := (HP2.out i (by rw [Hti.out, Ht.out])).trans Ht.out
                obtain ⟨hci, _⟩ := HO2.out.2 i _ (cells8_at hti2)
                have hyl : K[kk] < o2.length := by rw [HO2l.out]; omega
                obtain ⟨hcy, hfy⟩ := HO2.out.2 K[kk] _ (cells8_at (List.getElem?_eq_getElem hyl))
                have CV := Lib.hid (fun (W : World) (q : Q w W) => vary_any A L.length c L l[i] kk W rfl ((HL.out.q (Nat.le_refl _) q).more q.size) hl8 (HM.out l[i] (List.getElem_mem hil)) hlt)
                have CT := Lib.hid (fun (W : World) => turn_any t (varyB L l[i] kk) W)
                have hgl := HO2.out.1
                generalize o2[K[kk]] = oy at *
                have HKy : Hid (o2.set K[kk] (turnB t (varyB L l[i] kk)) = o2.set K[kk] (turnB t (varyB L l[i] kk))) := rfl
                have HP3 := Lib.hid (put_same hyl Hy.out)
                have Hyl := Lib.hid hyl
                have hyi : K[kk] < l.length := by omega
                have hyg : ((K[kk] : Nat) : Int) < (l.length : Int) := by omega
                have HKi : Hid (∃ y, y = K[kk]) := ⟨_, rfl⟩
                obtain ⟨y, hyK⟩ : ∃ y, y = K[kk] := ⟨_, rfl⟩
                rw [← hyK] at hkc hcy hfy HP3 Hyl hyi hyg
                have HyK := Lib.hid hyK
                have HXS : Hid (∀ W, Q wr W → W.cell? (kd.add kk) = some (.int .i64 (y : Int)) ∧ W.cell? ⟨g, i, none⟩ = some (.int .u8 (t.toNat : Int)) ∧ W.cell? (ad.add (i * 3)) = some (.int .i64 l[i].1) ∧ W.cell? ⟨(ad.add (i * 3)).block, (ad.add (i * 3)).off + 1, none⟩ = some (.string l[i].2.1) ∧ W.cell? ⟨(ad.add (i * 3)).block, (ad.add (i * 3)).off + 1 + 1, none⟩ = some (.int .i64 l[i].2.2)) :=
                  fun W q => ⟨(q.cell (p := kd.add kk) (by rw [add_block]; exact hkb)).trans hkc, (q.cell (p := ⟨g, i, none⟩) hgl).trans hci, (q.cell (p := ad.add (i * 3)) (by rw [add_block]; exact hb)).trans c0, (q.cell (p := ⟨(ad.add (i * 3)).block, (ad.add (i * 3)).off + 1, none⟩) (by show (ad.add (i * 3)).block < _; rw [add_block]; exact hb)).trans c1, (q.cell (p := ⟨(ad.add (i * 3)).block, (ad.add (i * 3)).off + 1 + 1, none⟩) (by show (ad.add (i * 3)).block < _; rw [add_block]; exact hb)).trans c2⟩
                have HYS : Hid (∀ W, Q wr W → W.cell? ⟨g, y, none⟩ = some (.int .u8 (oy.toNat : Int)) ∧ W.frozen? ⟨g, y, none⟩ = false) := fun W q => ⟨(q.cell (p := ⟨g, y, none⟩) hgl).trans hcy, (q.frozen (p := ⟨g, y, none⟩) hgl).trans hfy⟩
                have hkg : g ≠ kd.block := fun e => HB5.out kd rfl e.symm
                have hag : g ≠ ad.block := fun e => by
                  obtain ⟨ad', e', hb', _⟩ := tok_at (HR.out.q HQ1.out) hil
                  injection e' with e'
                  subst e'
                  have := HG.out
                  omega
                have hyi2 : y ≠ i := by have := HyK.out; omega
                have HXT : Hid (∀ W, Q wr W → ∀ v, (W.setCell ⟨g, y, none⟩ v).cell? (kd.add kk) = some (.int .i64 (y : Int)) ∧ (W.setCell ⟨g, y, none⟩ v).cell? ⟨g, i, none⟩ = some (.int .u8 (t.toNat : Int)) ∧ (W.setCell ⟨g, y, none⟩ v).cell? (ad.add (i * 3)) = some (.int .i64 l[i].1) ∧ (W.setCell ⟨g, y, none⟩ v).cell? ⟨(ad.add (i * 3)).block, (ad.add (i * 3)).off + 1, none⟩ = some (.string l[i].2.1) ∧ (W.setCell ⟨g, y, none⟩ v).cell? ⟨(ad.add (i * 3)).block, (ad.add (i * 3)).off + 1 + 1, none⟩ = some (.int .i64 l[i].2.2)) := fun W q v => by
                  obtain ⟨z1, z2, z3, z4, z5⟩ := HXS.out W q
                  exact ⟨(World.cell?_setCell_far _ _ _ _ (by rw [add_block]; exact hkg)).trans z1, setCell_ne hyi2 z2, (World.cell?_setCell_far _ _ _ _ (by rw [add_block]; exact hag)).trans z3, (World.cell?_setCell_far _ _ _ _ (by show g ≠ (ad.add (i * 3)).block; rw [add_block]; exact hag)).trans z4, (World.cell?_setCell_far _ _ _ _ (by show g ≠ (ad.add (i * 3)).block; rw [add_block]; exact hag)).trans z5⟩
                generalize varyB L l[i] kk = vv at *
                have hkkK : ((kk : Nat) : Int) < ((np l[i] : Nat) : Int) := by omega
                clear hy hyK hkc hci c0 c1 c2 hcy hfy hti2 hKi HKy HKi hkg hag hyi2
                go_upto_region 14 with fail
                go_region_held3 (fun w' => w'.cell? (kd.add kk) = some (.int .i64 (y : Int)) ∧ w'.cell? ⟨g, i, none⟩ = some (.int .u8 (t.toNat : Int)) ∧ w'.cell? (ad.add (i * 3)) = some (.int .i64 l[i].1) ∧ w'.cell? ⟨(ad.add (i * 3)).block, (ad.add (i * 3)).off + 1, none⟩ = some (.string l[i].2.1) ∧ w'.cell? ⟨(ad.add (i * 3)).block, (ad.add (i * 3)).off + 1 + 1, none⟩ = some (.int .i64 l[i].2.2))
                  (first
                    | (with_reducible exact HXT.out _ p7 _)
                    | (with_reducible exact HXS.out _ p7)
                    | (with_reducible exact HXS.out _ p6)
                    | (with_reducible exact HXS.out _ ((Q.refl wr).drew))
                    | go_keep)
                  (first
                    | (go_at_call 33; refine (CV.out _ (hq2.drew)).mono ?_; rintro e w6 ⟨rfl, q6⟩; have p6 := (Q.refl wr).drew.trans q6)
                    | (go_at_call 32; refine (CT.out _).mono ?_; rintro e w7 ⟨rfl, q7⟩; have p7 := p6.trans q7; have hcy7 := (HYS.out _ p7).1; have hfy7 := (HYS.out _ p7).2))
                all_goals
                  have HO3 := Lib.hid (own_set8 (HO2.out.q p7) Hyl.out (turnB t vv))
                  have HQ3 : Hid (Q w1 (w7.setCell ⟨g, y, none⟩ (.int .u8 ((turnB t vv).toNat : Int)))) := grown_q (setCell_grown _ _ _ _) (HQ2.out.trans p7) (by rw [HG.out]; exact Nat.le_refl _)
                  have HG3 : Hid (w5.grownBy (w7.setCell ⟨g, y, none⟩ (.int .u8 ((turnB t vv).toNat : Int))) (some g)) := grown_trans (grown_trans HG2.out (grows_q p7 _)) (setCell_grown _ _ _ _)
                  have HK3 : Hid (∀ (q : Nat) (hq : q < K.length), q < kk + 1 → (o2.set y (turnB t vv))[K[q]]? = F[K[q]]?) := fun q hq hqk => by
                    rcases Nat.lt_succ_iff_lt_or_eq.1 hqk with h | h
                    · exact HP3.out.1 _ (HK2.out q hq h)
                    · subst h
                      have := HP3.out.2
                      rwa [HyK.out] at this ⊢
                  go_wp2_with fail
                  go_roundw
                  case rel => exact ⟨kk + 1, o2.set y (turnB t vv), by omega, by go_num, HO3, by unfold Hid; rw [List.length_set]; exact HO2l.out, Lib.hid (fun p h => HP3.out.1 p (HP2.out p h)), HK3, HG3, HQ3⟩
                  case measure => simp [intOf]; omega
              · obtain rfl : kk = np l[i] := by omega
                have HD2 : Hid (Done l F o2 i) := by
                  have hK5 := HK5.out
                  subst hK5
                  exact HDz.out.step hil HS.out HSK.out (by rw [HO2l.out, HOlz.out]) HP2.out (fun q hq => HK2.out q hq (by rw [HKl.out] at hq; exact hq))
                clear HK2 HP2 HG2
                go_wp2_with fail
                go_roundw
                case rel => exact ⟨i, o2, by omega, by go_num, HO2, HO2l, Lib.hid (.inr HD2.out), HQ2⟩
                case measure => simp [intOf]
        · have HDz : Hid (Done l F (o.set i 66) (i + 1)) := by
            unfold Hid
            rw [hlast, HF.out]
            refine Done.first L (side0 s) HS.out (by rw [List.length_set]; exact HOl.out) ?_
            rw [← hi1, List.getElem?_set_self hio]
            unfold side0
            rw [if_neg h76]
          have HOz := Lib.hid hOa
          have HQz := Lib.hid hQa
          have HOlz : Hid ((o.set i 66).length = l.length) := by unfold Hid; rw [List.length_set]; exact HOl.out
          rw [decide_eq_false (fun h => h76 (.inl h))] at e76
          rw [decide_eq_false (fun h => h76 (.inr h))] at e82
          clear h76 hOa hOb hQa hQb hlast hsk HD hi1 h66 hc1 hf1
          generalize o.set i 66 = oz at *
          go_upto_region 10 with fail
          generalize wr.setCell ⟨g, i, none⟩ (.int .u8 66) = Wz at *
          clear hc0 hf0 HO HOl HQ hio
          have CK := Lib.hid (kids2_any B S1 l.length d l.length k1 l [x] i sk Wz rfl rfl (HR.out.q (HQ1.out.trans HQz.out)) (HS1.out.q HQz.out) (by omega) HM.out HS.out hil HSK.out)
          obtain ⟨t, ht, hkid⟩ := sides_kid L HS.out (side0 s) hil HSK.out
          rw [← HF.out] at ht hkid
          have hti := (HDz.out.at_ hil HS.out).trans ht
          have Hti := Lib.hid hti
          have Ht := Lib.hid ht
          have Hkid := Lib.hid hkid
          obtain ⟨sn, hsn⟩ := run_take HS.out (i + 1)
          obtain ⟨hnp, _⟩ := run_next hil HSK.out hsn
          clear ht hkid hti hsn
          go_wp2_with (go_at_call 31; refine CK.out.mono ?_; rintro e w5 ⟨B5, k5, K, rfl, hk5, hR5, hE5, hK5, hB5, q5⟩; have HR5 := Lib.hid hR5; have HE5 := Lib.hid hE5; have HK5 := Lib.hid hK5; have HQ5 := Lib.hid (HQz.out.trans q5); have HO5 := Lib.hid (HOz.out.q q5); have HB5 : Hid (∀ ad, B5 = some ad → ad.block ≠ g) := Lib.hid (fun ad e => by have h1 := hB5 ad e; have h2 := HOz.out.1; omega); clear hR5 hE5 hK5 hB5 q5)
          have hKl : K.length = np l[i] := by rw [HE5.out.len, List.length_reverse, List.length_take]; omega
          have HKl := Lib.hid hKl
          have h8 := (parts_nat (HM.out l[i] (List.getElem_mem hil))).2
          clear hKl CK
          go_loopw [11] (fun jj wr2 => ∃ (kk : Nat) (o2 : List UInt8), kk ≤ np l[i] ∧ jj = .int .i64 kk ∧ Hid (OwnC wr2 g (cells8 o2)) ∧ Hid (o2.length = l.length) ∧ Hid (∀ p : Nat, oz[p]? = F[p]? → o2[p]? = F[p]?) ∧ Hid (∀ (q : Nat) (hq : q < K.length), q < kk → o2[K[q]]? = F[K[q]]?) ∧ Hid (w5.grownBy wr2 (some g)) ∧ Hid (Q w1 wr2)) (fun jj _ => np l[i] - (intOf jj).toNat)
          case atStart => exact ⟨0, oz, Nat.zero_le _, rfl, HO5, HOlz, Lib.hid (fun _ h => h), Lib.hid (fun q hq h => absurd h (Nat.not_lt_zero _)), World.grownBy.refl _ _, HQ5⟩
          case round =>
            clear HO5 HQ5
            obtain ⟨kk, o2, hkk, rfl, HO2, HO2l, HP2, HK2, HG2, HQ2⟩ := hrel
            by_cases hlt : kk < np l[i]
            · have hkK : kk < K.length := by rw [HKl.out]; exact hlt
              have hKi := (HE5.out.each kk hkK (by rw [← HE5.out.len]; exact hkK)).1
              obtain ⟨kd, hkd, hkb, hkc⟩ := nat_at (rds_grown HR5.out HG2.out HB5.out) hkK
              have hy : F[K[kk]]? = some (turnB t (varyB L l[i] kk)) := by
                have h1 := Hkid.out kk (by rw [← HK5.out]; exact hkK)
                simpa only [← HK5.out] using h1
              have Hy := Lib.hid hy
              have hq2 : Q w wr := HQ1.out.trans HQ2.out
              obtain ⟨ad, hBe, hb, c0, c1, c2⟩ := tok_at (HR.out.q hq2) hil
              subst hBe hkd
              have hti2 := (HP2.out i (by rw [Hti.out, Ht.out])).trans Ht.out
              obtain ⟨hci, _⟩ := HO2.out.2 i _ (cells8_at hti2)
              have hyl : K[kk] < o2.length := by rw [HO2l.out]; omega
              obtain ⟨hcy, hfy⟩ := HO2.out.2 K[kk] _ (cells8_at (List.getElem?_eq_getElem hyl))
              have CV := Lib.hid (fun (W : World) (q : Q w W) => vary_any A L.length c L l[i] kk W rfl ((HL.out.q (Nat.le_refl _) q).more q.size) hl8 (HM.out l[i] (List.getElem_mem hil)) hlt)
              have CT := Lib.hid (fun (W : World) => turn_any t (varyB L l[i] kk) W)
              have hgl := HO2.out.1
              generalize o2[K[kk]] = oy at *
              have HKy : Hid (o2.set K[kk] (turnB t (varyB L l[i] kk)) = o2.set K[kk] (turnB t (varyB L l[i] kk))) := rfl
              have HP3 := Lib.hid (put_same hyl Hy.out)
              have Hyl := Lib.hid hyl
              have hyi : K[kk] < l.length := by omega
              have hyg : ((K[kk] : Nat) : Int) < (l.length : Int) := by omega
              have HKi : Hid (∃ y, y = K[kk]) := ⟨_, rfl⟩
              obtain ⟨y, hyK⟩ : ∃ y, y = K[kk] := ⟨_, rfl⟩
              rw [← hyK] at hkc hcy hfy HP3 Hyl hyi hyg
              have HyK := Lib.hid hyK
              have HXS : Hid (∀ W, Q wr W → W.cell? (kd.add kk) = some (.int .i64 (y : Int)) ∧ W.cell? ⟨g, i, none⟩ = some (.int .u8 (t.toNat : Int)) ∧ W.cell? (ad.add (i * 3)) = some (.int .i64 l[i].1) ∧ W.cell? ⟨(ad.add (i * 3)).block, (ad.add (i * 3)).off + 1, none⟩ = some (.string l[i].2.1) ∧ W.cell? ⟨(ad.add (i * 3)).block, (ad.add (i * 3)).off + 1 + 1, none⟩ = some (.int .i64 l[i].2.2)) :=
                fun W q => ⟨(q.cell (p := kd.add kk) (by rw [add_block]; exact hkb)).trans hkc, (q.cell (p := ⟨g, i, none⟩) hgl).trans hci, (q.cell (p := ad.add (i * 3)) (by rw [add_block]; exact hb)).trans c0, (q.cell (p := ⟨(ad.add (i * 3)).block, (ad.add (i * 3)).off + 1, none⟩) (by show (ad.add (i * 3)).block < _; rw [add_block]; exact hb)).trans c1, (q.cell (p := ⟨(ad.add (i * 3)).block, (ad.add (i * 3)).off + 1 + 1, none⟩) (by show (ad.add (i * 3)).block < _; rw [add_block]; exact hb)).trans c2⟩
              have HYS : Hid (∀ W, Q wr W → W.cell? ⟨g, y, none⟩ = some (.int .u8 (oy.toNat : Int)) ∧ W.frozen? ⟨g, y, none⟩ = false) := fun W q => ⟨(q.cell (p := ⟨g, y, none⟩) hgl).trans hcy, (q.frozen (p := ⟨g, y, none⟩) hgl).trans hfy⟩
              have hkg : g ≠ kd.block := fun e => HB5.out kd rfl e.symm
              have hag : g ≠ ad.block := fun e => by
                obtain ⟨ad', e', hb', _⟩ := tok_at (HR.out.q HQ1.out) hil
                injection e' with e'
                subst e'
                have := HG.out
                omega
              have hyi2 : y ≠ i := by have := HyK.out; omega
              have HXT : Hid (∀ W, Q wr W → ∀ v, (W.setCell ⟨g, y, none⟩ v).cell? (kd.add kk) = some (.int .i64 (y : Int)) ∧ (W.setCell ⟨g, y, none⟩ v).cell? ⟨g, i, none⟩ = some (.int .u8 (t.toNat : Int)) ∧ (W.setCell ⟨g, y, none⟩ v).cell? (ad.add (i * 3)) = some (.int .i64 l[i].1) ∧ (W.setCell ⟨g, y, none⟩ v).cell? ⟨(ad.add (i * 3)).block, (ad.add (i * 3)).off + 1, none⟩ = some (.string l[i].2.1) ∧ (W.setCell ⟨g, y, none⟩ v).cell? ⟨(ad.add (i * 3)).block, (ad.add (i * 3)).off + 1 + 1, none⟩ = some (.int .i64 l[i].2.2)) := fun W q v => by
                obtain ⟨z1, z2, z3, z4, z5⟩ := HXS.out W q
                exact ⟨(World.cell?_setCell_far _ _ _ _ (by rw [add_block]; exact hkg)).trans z1, setCell_ne hyi2 z2, (World.cell?_setCell_far _ _ _ _ (by rw [add_block]; exact hag)).trans z3, (World.cell?_setCell_far _ _ _ _ (by show g ≠ (ad.add (i * 3)).block; rw [add_block]; exact hag)).trans z4, (World.cell?_setCell_far _ _ _ _ (by show g ≠ (ad.add (i * 3)).block; rw [add_block]; exact hag)).trans z5⟩
              generalize varyB L l[i] kk = vv at *
              have hkkK : ((kk : Nat) : Int) < ((np l[i] : Nat) : Int) := by omega
              clear hy hyK hkc hci c0 c1 c2 hcy hfy hti2 hKi HKy HKi hkg hag hyi2
              go_upto_region 14 with fail
              go_region_held3 (fun w' => w'.cell? (kd.add kk) = some (.int .i64 (y : Int)) ∧ w'.cell? ⟨g, i, none⟩ = some (.int .u8 (t.toNat : Int)) ∧ w'.cell? (ad.add (i * 3)) = some (.int .i64 l[i].1) ∧ w'.cell? ⟨(ad.add (i * 3)).block, (ad.add (i * 3)).off + 1, none⟩ = some (.string l[i].2.1) ∧ w'.cell? ⟨(ad.add (i * 3)).block, (ad.add (i * 3)).off + 1 + 1, none⟩ = some (.int .i64 l[i].2.2))
                (first
                  | (with_reducible exact HXT.out _ p7 _)
                  | (with_reducible exact HXS.out _ p7)
                  | (with_reducible exact HXS.out _ p6)
                  | (with_reducible exact HXS.out _ ((Q.refl wr).drew))
                  | go_keep)
                (first
                  | (go_at_call 33; refine (CV.out _ (hq2.drew)).mono ?_; rintro e w6 ⟨rfl, q6⟩; have p6 := (Q.refl wr).drew.trans q6)
                  | (go_at_call 32; refine (CT.out _).mono ?_; rintro e w7 ⟨rfl, q7⟩; have p7 := p6.trans q7; have hcy7 := (HYS.out _ p7).1; have hfy7 := (HYS.out _ p7).2))
              all_goals
                have HO3 := Lib.hid (own_set8 (HO2.out.q p7) Hyl.out (turnB t vv))
                have HQ3 : Hid (Q w1 (w7.setCell ⟨g, y, none⟩ (.int .u8 ((turnB t vv).toNat : Int)))) := grown_q (setCell_grown _ _ _ _) (HQ2.out.trans p7) (by rw [HG.out]; exact Nat.le_refl _)
                have HG3 : Hid (w5.grownBy (w7.setCell ⟨g, y, none⟩ (.int .u8 ((turnB t vv).toNat : Int))) (some g)) := grown_trans (grown_trans HG2.out (grows_q p7 _)) (setCell_grown _ _ _ _)
                have HK3 : Hid (∀ (q : Nat) (hq : q < K.length), q < kk + 1 → (o2.set y (turnB t vv))[K[q]]? = F[K[q]]?) := fun q hq hqk => by
                  rcases Nat.lt_succ_iff_lt_or_eq.1 hqk with h | h
                  · exact HP3.out.1 _ (HK2.out q hq h)
                  · subst h
                    have := HP3.out.2
                    rwa [HyK.out] at this ⊢
                go_wp2_with fail
                go_roundw
                case rel => exact ⟨kk + 1, o2.set y (turnB t vv), by omega, by go_num, HO3, by unfold Hid; rw [List.length_set]; exact HO2l.out, Lib.hid (fun p h => HP3.out.1 p (HP2.out p h)), HK3, HG3, HQ3⟩
                case measure => simp [intOf]; omega
            · obtain rfl : kk = np l[i] := by omega
              have HD2 : Hid (Done l F o2 i) := by
                have hK5 := HK5.out
                subst hK5
                exact HDz.out.step hil HS.out HSK.out (by rw [HO2l.out, HOlz.out]) HP2.out (fun q hq => HK2.out q hq (by rw [HKl.out] at hq; exact hq))
              clear HK2 HP2 HG2
              go_wp2_with fail
              go_roundw
              case rel => exact ⟨i, o2, by omega, by go_num, HO2, HO2l, Lib.hid (.inr HD2.out), HQ2⟩
              case measure => simp [intOf]
      · have eI : ((i : Int) == (l.length : Int) - 1) = false := beq_eq_false_iff_ne.2 (by omega)
        have HDo : Hid (Done l F o (i + 1)) := HD.out.resolve_left hlast
        clear hlast hsk hc0 hf0 HD
        rw [e1]
        go_upto_region 10 with fail
        have CK := Lib.hid (kids2_any B S1 l.length d l.length k1 l [x] i sk wr rfl rfl (HR.out.q (HQ1.out.trans HQ.out)) (HS1.out.q HQ.out) (by omega) HM.out HS.out hil HSK.out)
        obtain ⟨t, ht, hkid⟩ := sides_kid L HS.out (side0 s) hil HSK.out
        rw [← HF.out] at ht hkid
        have hti := (HDo.out.at_ hil HS.out).trans ht
        have Hti := Lib.hid hti
        have Ht := Lib.hid ht
        have Hkid := Lib.hid hkid
        obtain ⟨sn, hsn⟩ := run_take HS.out (i + 1)
        obtain ⟨hnp, _⟩ := run_next hil HSK.out hsn
        clear ht hkid hti hsn
        go_wp2_with (go_at_call 31; refine CK.out.mono ?_; rintro e w5 ⟨B5, k5, K, rfl, hk5, hR5, hE5, hK5, hB5, q5⟩; have HR5 := Lib.hid hR5; have HE5 := Lib.hid hE5; have HK5 := Lib.hid hK5; have HQ5 := Lib.hid (HQ.out.trans q5); have HO5 := Lib.hid (HO.out.q q5); have HB5 : Hid (∀ ad, B5 = some ad → ad.block ≠ g) := Lib.hid (fun ad e => by have h1 := hB5 ad e; have h2 := HO.out.1; omega); clear hR5 hE5 hK5 hB5 q5)
        have hKl : K.length = np l[i] := by rw [HE5.out.len, List.length_reverse, List.length_take]; omega
        have HKl := Lib.hid hKl
        have h8 := (parts_nat (HM.out l[i] (List.getElem_mem hil))).2
        clear hKl CK
        go_loopw [11] (fun jj wr2 => ∃ (kk : Nat) (o2 : List UInt8), kk ≤ np l[i] ∧ jj = .int .i64 kk ∧ Hid (OwnC wr2 g (cells8 o2)) ∧ Hid (o2.length = l.length) ∧ Hid (∀ p : Nat, o[p]? = F[p]? → o2[p]? = F[p]?) ∧ Hid (∀ (q : Nat) (hq : q < K.length), q < kk → o2[K[q]]? = F[K[q]]?) ∧ Hid (w5.grownBy wr2 (some g)) ∧ Hid (Q w1 wr2)) (fun jj _ => np l[i] - (intOf jj).toNat)
        case atStart => exact ⟨0, o, Nat.zero_le _, rfl, HO5, HOl, Lib.hid (fun _ h => h), Lib.hid (fun q hq h => absurd h (Nat.not_lt_zero _)), World.grownBy.refl _ _, HQ5⟩
        case round =>
          clear HO5 HQ5
          obtain ⟨kk, o2, hkk, rfl, HO2, HO2l, HP2, HK2, HG2, HQ2⟩ := hrel
          by_cases hlt : kk < np l[i]
          · have hkK : kk < K.length := by rw [HKl.out]; exact hlt
            have hKi := (HE5.out.each kk hkK (by rw [← HE5.out.len]; exact hkK)).1
            obtain ⟨kd, hkd, hkb, hkc⟩ := nat_at (rds_grown HR5.out HG2.out HB5.out) hkK
            have hy : F[K[kk]]? = some (turnB t (varyB L l[i] kk)) := by
              have h1 := Hkid.out kk (by rw [← HK5.out]; exact hkK)
              simpa only [← HK5.out] using h1
            have Hy := Lib.hid hy
            have hq2 : Q w wr := HQ1.out.trans HQ2.out
            obtain ⟨ad, hBe, hb, c0, c1, c2⟩ := tok_at (HR.out.q hq2) hil
            subst hBe hkd
            have hti2 := (HP2.out i (by rw [Hti.out, Ht.out])).trans Ht.out
            obtain ⟨hci, _⟩ := HO2.out.2 i _ (cells8_at hti2)
            have hyl : K[kk] < o2.length := by rw [HO2l.out]; omega
            obtain ⟨hcy, hfy⟩ := HO2.out.2 K[kk] _ (cells8_at (List.getElem?_eq_getElem hyl))
            have CV := Lib.hid (fun (W : World) (q : Q w W) => vary_any A L.length c L l[i] kk W rfl ((HL.out.q (Nat.le_refl _) q).more q.size) hl8 (HM.out l[i] (List.getElem_mem hil)) hlt)
            have CT := Lib.hid (fun (W : World) => turn_any t (varyB L l[i] kk) W)
            have hgl := HO2.out.1
            generalize o2[K[kk]] = oy at *
            have HKy : Hid (o2.set K[kk] (turnB t (varyB L l[i] kk)) = o2.set K[kk] (turnB t (varyB L l[i] kk))) := rfl
            have HP3 := Lib.hid (put_same hyl Hy.out)
            have Hyl := Lib.hid hyl
            have hyi : K[kk] < l.length := by omega
            have hyg : ((K[kk] : Nat) : Int) < (l.length : Int) := by omega
            have HKi : Hid (∃ y, y = K[kk]) := ⟨_, rfl⟩
            obtain ⟨y, hyK⟩ : ∃ y, y = K[kk] := ⟨_, rfl⟩
            rw [← hyK] at hkc hcy hfy HP3 Hyl hyi hyg
            have HyK := Lib.hid hyK
            have HXS : Hid (∀ W, Q wr W → W.cell? (kd.add kk) = some (.int .i64 (y : Int)) ∧ W.cell? ⟨g, i, none⟩ = some (.int .u8 (t.toNat : Int)) ∧ W.cell? (ad.add (i * 3)) = some (.int .i64 l[i].1) ∧ W.cell? ⟨(ad.add (i * 3)).block, (ad.add (i * 3)).off + 1, none⟩ = some (.string l[i].2.1) ∧ W.cell? ⟨(ad.add (i * 3)).block, (ad.add (i * 3)).off + 1 + 1, none⟩ = some (.int .i64 l[i].2.2)) :=
              fun W q => ⟨(q.cell (p := kd.add kk) (by rw [add_block]; exact hkb)).trans hkc, (q.cell (p := ⟨g, i, none⟩) hgl).trans hci, (q.cell (p := ad.add (i * 3)) (by rw [add_block]; exact hb)).trans c0, (q.cell (p := ⟨(ad.add (i * 3)).block, (ad.add (i * 3)).off + 1, none⟩) (by show (ad.add (i * 3)).block < _; rw [add_block]; exact hb)).trans c1, (q.cell (p := ⟨(ad.add (i * 3)).block, (ad.add (i * 3)).off + 1 + 1, none⟩) (by show (ad.add (i * 3)).block < _; rw [add_block]; exact hb)).trans c2⟩
            have HYS : Hid (∀ W, Q wr W → W.cell? ⟨g, y, none⟩ = some (.int .u8 (oy.toNat : Int)) ∧ W.frozen? ⟨g, y, none⟩ = false) := fun W q => ⟨(q.cell (p := ⟨g, y, none⟩) hgl).trans hcy, (q.frozen (p := ⟨g, y, none⟩) hgl).trans hfy⟩
            have hkg : g ≠ kd.block := fun e => HB5.out kd rfl e.symm
            have hag : g ≠ ad.block := fun e => by
              obtain ⟨ad', e', hb', _⟩ := tok_at (HR.out.q HQ1.out) hil
              injection e' with e'
              subst e'
              have := HG.out
              omega
            have hyi2 : y ≠ i := by have := HyK.out; omega
            have HXT : Hid (∀ W, Q wr W → ∀ v, (W.setCell ⟨g, y, none⟩ v).cell? (kd.add kk) = some (.int .i64 (y : Int)) ∧ (W.setCell ⟨g, y, none⟩ v).cell? ⟨g, i, none⟩ = some (.int .u8 (t.toNat : Int)) ∧ (W.setCell ⟨g, y, none⟩ v).cell? (ad.add (i * 3)) = some (.int .i64 l[i].1) ∧ (W.setCell ⟨g, y, none⟩ v).cell? ⟨(ad.add (i * 3)).block, (ad.add (i * 3)).off + 1, none⟩ = some (.string l[i].2.1) ∧ (W.setCell ⟨g, y, none⟩ v).cell? ⟨(ad.add (i * 3)).block, (ad.add (i * 3)).off + 1 + 1, none⟩ = some (.int .i64 l[i].2.2)) := fun W q v => by
              obtain ⟨z1, z2, z3, z4, z5⟩ := HXS.out W q
              exact ⟨(World.cell?_setCell_far _ _ _ _ (by rw [add_block]; exact hkg)).trans z1, setCell_ne hyi2 z2, (World.cell?_setCell_far _ _ _ _ (by rw [add_block]; exact hag)).trans z3, (World.cell?_setCell_far _ _ _ _ (by show g ≠ (ad.add (i * 3)).block; rw [add_block]; exact hag)).trans z4, (World.cell?_setCell_far _ _ _ _ (by show g ≠ (ad.add (i * 3)).block; rw [add_block]; exact hag)).trans z5⟩
            generalize varyB L l[i] kk = vv at *
            have hkkK : ((kk : Nat) : Int) < ((np l[i] : Nat) : Int) := by omega
            clear hy hyK hkc hci c0 c1 c2 hcy hfy hti2 hKi HKy HKi hkg hag hyi2
            go_upto_region 14 with fail
            go_region_held3 (fun w' => w'.cell? (kd.add kk) = some (.int .i64 (y : Int)) ∧ w'.cell? ⟨g, i, none⟩ = some (.int .u8 (t.toNat : Int)) ∧ w'.cell? (ad.add (i * 3)) = some (.int .i64 l[i].1) ∧ w'.cell? ⟨(ad.add (i * 3)).block, (ad.add (i * 3)).off + 1, none⟩ = some (.string l[i].2.1) ∧ w'.cell? ⟨(ad.add (i * 3)).block, (ad.add (i * 3)).off + 1 + 1, none⟩ = some (.int .i64 l[i].2.2))
              (first
                | (with_reducible exact HXT.out _ p7 _)
                | (with_reducible exact HXS.out _ p7)
                | (with_reducible exact HXS.out _ p6)
                | (with_reducible exact HXS.out _ ((Q.refl wr).drew))
                | go_keep)
              (first
                | (go_at_call 33; refine (CV.out _ (hq2.drew)).mono ?_; rintro e w6 ⟨rfl, q6⟩; have p6 := (Q.refl wr).drew.trans q6)
                | (go_at_call 32; refine (CT.out _).mono ?_; rintro e w7 ⟨rfl, q7⟩; have p7 := p6.trans q7; have hcy7 := (HYS.out _ p7).1; have hfy7 := (HYS.out _ p7).2))
            all_goals
              have HO3 := Lib.hid (own_set8 (HO2.out.q p7) Hyl.out (turnB t vv))
              have HQ3 : Hid (Q w1 (w7.setCell ⟨g, y, none⟩ (.int .u8 ((turnB t vv).toNat : Int)))) := grown_q (setCell_grown _ _ _ _) (HQ2.out.trans p7) (by rw [HG.out]; exact Nat.le_refl _)
              have HG3 : Hid (w5.grownBy (w7.setCell ⟨g, y, none⟩ (.int .u8 ((turnB t vv).toNat : Int))) (some g)) := grown_trans (grown_trans HG2.out (grows_q p7 _)) (setCell_grown _ _ _ _)
              have HK3 : Hid (∀ (q : Nat) (hq : q < K.length), q < kk + 1 → (o2.set y (turnB t vv))[K[q]]? = F[K[q]]?) := fun q hq hqk => by
                rcases Nat.lt_succ_iff_lt_or_eq.1 hqk with h | h
                · exact HP3.out.1 _ (HK2.out q hq h)
                · subst h
                  have := HP3.out.2
                  rwa [HyK.out] at this ⊢
              go_wp2_with fail
              go_roundw
              case rel => exact ⟨kk + 1, o2.set y (turnB t vv), by omega, by go_num, HO3, by unfold Hid; rw [List.length_set]; exact HO2l.out, Lib.hid (fun p h => HP3.out.1 p (HP2.out p h)), HK3, HG3, HQ3⟩
              case measure => simp [intOf]; omega
          · obtain rfl : kk = np l[i] := by omega
            have HD2 : Hid (Done l F o2 i) := by
              have hK5 := HK5.out
              subst hK5
              exact HDo.out.step hil HS.out HSK.out (by rw [HO2l.out, HOl.out]) HP2.out (fun q hq => HK2.out q hq (by rw [HKl.out] at hq; exact hq))
            clear HK2 HP2 HG2
            go_wp2_with fail
            go_roundw
            case rel => exact ⟨i, o2, by omega, by go_num, HO2, HO2l, Lib.hid (.inr HD2.out), HQ2⟩
            case measure => simp [intOf]
end Go.Proofs.Ytmohedkhbjeapaa.Ex
