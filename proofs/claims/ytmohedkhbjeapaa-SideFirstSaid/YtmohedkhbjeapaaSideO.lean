/-
  Contract of package side: Of.
-/
import Derived.Test.YtmohedkhbjeapaaSideR
import Derived.Test.YtmohedkhbjeapaaSideM
import Derived.Test.YtmohedkhbjeapaaSideV
import Derived.Test.YtmohedkhbjeapaaSideS
import Derived.Deep.RegionHeld3
namespace Go.Proofs.Ytmohedkhbjeapaa.Ex
open Go.RowKit Kit Rw
open Go.Proofs.Ytmohedkhbjeapaa.Sg (Sig findI Row)

/-- a cell that isn't told yet is told to be on both sides -/
def Open66 (l : List Tg) (F o : List UInt8) : Prop := ∀ j, j < l.length → o[j]? = F[j]? ∨ o[j]? = some 66
theorem Open66.put {l : List Tg} {F o : List UInt8} (h : Open66 l F o) {p : Nat} {b : UInt8} (hp : p < o.length) (hb : F[p]? = some b) : Open66 l F (o.set p b) := fun j hj => by
  by_cases e : p = j
  · subst e; left; rw [List.getElem?_set_self hp, hb]
  · rw [List.getElem?_set_ne e]; exact h j hj
theorem first66 {l : List Tg} {F : List UInt8} {s : UInt8} (hpos : 0 < l.length) (hF : F[l.length - 1]? = some s) : Open66 l F ((List.replicate l.length 66).set (l.length - 1) s) ∧ ((List.replicate l.length 66).set (l.length - 1) s)[l.length - 1]? = some s := by
  have h2 : ((List.replicate l.length (66 : UInt8)).set (l.length - 1) s)[l.length - 1]? = some s := List.getElem?_set_self (by simp; omega)
  refine ⟨fun j hj => ?_, h2⟩
  by_cases e : l.length - 1 = j
  · subst e; left; rw [h2, hF]
  · right; rw [List.getElem?_set_ne e, List.getElem?_replicate, if_pos hj]

theorem own_grown {w w' : World} {g gs : Nat} {cs : List Value} (h : OwnC w gs cs) (gr : w.grownBy w' (some g)) (hne : gs ≠ g) : OwnC w' gs cs := by
  have hb := gr.block gs h.1 (fun e => hne (by injection e))
  exact ⟨Nat.lt_of_lt_of_le h.1 gr.size, fun i x hx => ⟨(World.cell?_of_block (a := ⟨gs, i, none⟩) hb).trans (h.2 i x hx).1, by rw [← (h.2 i x hx).2]; unfold World.frozen?; rw [hb]⟩⟩
theorem backs_at : ∀ (st : List Ex) (i q : Nat) (h : q < (backsF st i).length), (backsF st i)[q] = i - sumS (st.take q) - 1
  | [], _, _, h => by simp [backsF] at h
  | e :: r, i, 0, _ => by simp [backsF, sumS]
  | e :: r, i, q + 1, h => by
    have := backs_at r (i - e.size) q (by simpa [backsF] using h)
    simp only [backsF, List.getElem_cons_succ, List.take_succ_cons, sumS]
    rw [this]
    omega
/-- a node's parts, the last one first: where they end, and on which side they are -/
theorem kids_back (L : List Sig) {l : List Tg} {x : Ex} (h : runS [] l = some [x]) (s : UInt8) {i : Nat} (hi : i < l.length) {sk : List Ex} (hsk : runS [] (l.take i) = some sk) :
    ∃ t, (x.sides L s)[i]? = some t ∧ ∀ (q : Nat) (hq : q < (backsF (sk.take (np l[i])) i).length), (backsF (sk.take (np l[i])) i)[q] = i - sumS (sk.take q) - 1 ∧ (x.sides L s)[(backsF (sk.take (np l[i])) i)[q]]? = some (turnB t (varyB L l[i] (np l[i] - 1 - q))) := by
  obtain ⟨t, ht, hk⟩ := sides_kid L h s hi hsk
  obtain ⟨sn, hsn⟩ := run_take h (i + 1)
  obtain ⟨hnp, _⟩ := run_next hi hsk hsn
  have hbl : (backsF (sk.take (np l[i])) i).length = np l[i] := by rw [backsF_len, List.length_take]; omega
  refine ⟨t, ht, fun q hq => ⟨?_, ?_⟩⟩
  · rw [backs_at, List.take_take, Nat.min_eq_left (by omega)]
  · have := hk (np l[i] - 1 - q) (by rw [List.length_reverse]; omega)
    rw [List.getElem_reverse] at this
    have e : (backsF (sk.take (np l[i])) i).length - 1 - (np l[i] - 1 - q) = q := by omega
    simpa only [e] using this

set_option maxRecDepth 100000 in
set_option maxHeartbeats 8000000 in
theorem sideOf_full (A B : Option Addr) (m c n d : Nat) (L : List Sig) (l : List Tg) (x : Ex) (s : UInt8) (w : World) (hm : m = L.length) (hn : n = l.length) (hL : Row w w.heap.size A L) (hr : Rds w w.heap.size B (cellsG l)) (hl8 : L.length ≤ 1000) (hl : l.length ≤ 600) (hmay : ∀ t ∈ l, mayN t = true) (hs : runS [] l = some [x]) :
    Calls Try.prog 14 #[.slice A m c, .slice B n d, .int .u8 (s.toNat : Int)] w (OfPost (x.sides L (side0 s)) w) := by
  subst hm hn
  have hx : x.size = l.length := by
    have := run_sum (i := l.length) (by rw [List.take_length]; exact hs) (Nat.le_refl _)
    simpa [sumS] using this
  have hpos : 0 < l.length := by rw [← hx]; exact size_pos x
  have HL := Lib.hid hL
  have HR := Lib.hid hr
  have HM := Lib.hid hmay
  have HS := Lib.hid hs
  have hq0 := (Q.refl w).alloc (Obj.cells #[.int .u8 66] 5)
  have hO0 := own_new8 w [.int .u8 66] 5
  have CR := Lib.hid (repeat_any w.heap.size l.length _ (hO0.2 0 _ rfl).1 hO0.1 hpos hl)
  have HQ0 := Lib.hid hq0
  have CS : Hid (∀ W, Q w W → Calls Try.prog 27 #[.slice B l.length d] W fun e w' => ∃ g, e = .returned (.slice (some ⟨g, 0, none⟩) l.length l.length) ∧ OwnC w' g (cellsI (startsL l l.length)) ∧ W.heap.size ≤ g ∧ Q W w') := fun W q => starts7_any B l.length d l x W rfl (HR.out.q q) (by omega) HM.out HS.out
  have CO : Hid (∀ W, Calls Try.prog 28 #[] W (OthersPost W)) := fun W => others_any W
  have HX := Lib.hid hx
  have dpos : decide ((0 : Int) < (l.length : Int)) = true := decide_eq_true (by omega)
  obtain ⟨F, hF⟩ : ∃ F, F = x.sides L (side0 s) := ⟨_, rfl⟩
  rw [← hF]
  have HF := Lib.hid hF
  have HFl : Hid (F.length = l.length) := by unfold Hid; rw [hF, sides_len]; exact hx
  have HLast : Hid (F[l.length - 1]? = some (side0 s)) := by unfold Hid; rw [hF, ← hx]; exact sides_last L (side0 s) x
  clear hL hr hmay hs hx hF hq0 hO0
  have e76 : ((s.toNat : Int) == 76) = decide (s = 76) := byte_is s 76 (by decide)
  have e82 : ((s.toNat : Int) == 82) = decide (s = 82) := byte_is s 82 (by decide)
  have HS0 : Hid (side0 s = if s = 76 ∨ s = 82 then s else 66) := rfl
  have HDF : Hid (∀ o : List UInt8, o.length = l.length → o[l.length - 1]? = some (side0 s) → Done l F o l.length) := fun o h1 h2 => by rw [HF.out]; exact Done.first L (side0 s) HS.out h1 h2
  have HCF : Hid (∀ (g : Nat) (w1 : World), OwnC w1 g (cells8 (List.replicate l.length 66)) → w1.cell? ⟨g, l.length - 1, none⟩ = some (.int .u8 66) ∧ w1.frozen? ⟨g, l.length - 1, none⟩ = false) := fun g w1 h => h.2 (l.length - 1) _ (cells8_at (b := 66) (by rw [List.getElem?_replicate, if_pos (by omega)]))
  have h3 : s = 76 ∨ s = 82 ∨ ¬ (s = 76 ∨ s = 82) := by
    by_cases h1 : s = 76
    · exact .inl h1
    · by_cases h2 : s = 82
      · exact .inr (.inl h2)
      · exact .inr (.inr (by rintro (h | h); exact h1 h; exact h2 h))
  rcases h3 with h3 | h3 | h3
  · have HE : Hid (side0 s = s) := by rw [Hid, HS0.out, if_pos (.inl h3)]
    rw [decide_eq_true h3] at e76
    clear h3 e82 HS0
    generalize hsv : (s.toNat : Int) = sv at *
    have HSV := Lib.hid hsv
    clear hsv
    go_enter Try.func14, Try.ntmps14
    go_wp2_with (first
      | (go_at_call 26; refine CR.out.mono ?_; rintro e w1 ⟨g, rfl, hO, hg, q1⟩; have HO1 := Lib.hid hO; have HQ1 := Lib.hid (HQ0.out.trans q1); have HG : Hid (w.heap.size ≤ g) := Nat.le_trans HQ0.out.size hg; clear hO hg q1; obtain ⟨ce, fe⟩ := HCF.out g w1 HO1.out; have HQs : Hid (Q w (w1.setCell ⟨g, l.length - 1, none⟩ (.int .u8 sv))) := Lib.hid (grown_q (setCell_grown _ _ _ _) HQ1.out HG.out))
      | (go_at_call 27; refine (CS.out _ HQs.out).mono ?_; rintro e w2 ⟨gs, rfl, hS, hgs, q2⟩; have HS2 := Lib.hid hS; have HQ2 := Lib.hid q2; have HGS := Lib.hid hgs; clear hS hgs q2)
      | (go_at_call 28; refine (CO.out _).mono ?_; rintro e w3 ⟨gm, rfl, hM, hgm, q3⟩; have HM3 := Lib.hid hM; have HQ3 := Lib.hid q3; have HGM := Lib.hid hgm; clear hM hgm q3))
    have HOa : Hid (OwnC w3 g (cells8 ((List.replicate l.length 66).set (l.length - 1) (side0 s)))) := by
      rw [HE.out]
      have := own_set8 HO1.out (k := l.length - 1) (by simp; omega) s
      rw [HSV.out] at this
      exact this.q (HQ2.out.trans HQ3.out)
    have HW : Hid (Q w w3) := HQs.out.trans (HQ2.out.trans HQ3.out)
    have HSa : Hid (OwnC w3 gs (cellsI (startsL l l.length))) := HS2.out.q HQ3.out
    have HN1 : Hid (gs ≠ g) := Lib.hid (fun e => by have h1 := HO1.out.1; have h2 := HGS.out; simp at h2; omega)
    have HN2 : Hid (gm ≠ g) := Lib.hid (fun e => by have h1 := HO1.out.1; have h2 := HGM.out; have h4 := HQ2.out.size; simp at h4; omega)
    clear HO1 HQ1 HQs HQ2 HQ3 HS2 HGS HGM HSV HE ce fe
    obtain ⟨h66, hlast⟩ := first66 hpos HLast.out
    have HD0 : Hid (Done l F ((List.replicate l.length 66).set (l.length - 1) (side0 s)) l.length) := HDF.out _ (by simp) hlast
    have H66 := Lib.hid h66
    have HOl : Hid (((List.replicate l.length 66).set (l.length - 1) (side0 s)).length = l.length) := by unfold Hid; simp
    clear h66 hlast
    generalize (List.replicate l.length 66).set (l.length - 1) (side0 s) = o0 at *
    go_loopw [10] (fun at_ wr => ∃ (k : Nat) (o : List UInt8), k ≤ l.length ∧ at_ = .int .i64 ((k : Int) - 1) ∧ Hid (OwnC wr g (cells8 o)) ∧ Hid (o.length = l.length) ∧ Hid (Done l F o k) ∧ Hid (Open66 l F o) ∧ Hid (w3.grownBy wr (some g))) (fun at_ _ => (intOf at_ + 1).toNat)
    case atStart => exact ⟨l.length, o0, Nat.le_refl _, rfl, HOa, HOl, HD0, H66, World.grownBy.refl _ _⟩
    case round =>
      clear HOa HD0 H66 HOl
      obtain ⟨k, o, hk, rfl, HO, HOl, HD, H6, HGr⟩ := hrel
      have HQ : Hid (Q w wr) := grown_q HGr.out HW.out HG.out
      rcases Nat.eq_zero_or_pos k with hk0 | hk0
      · subst hk0
        have hoF := HD.out.all
        rw [hoF] at HO
        have e1 : (((0 : Nat) : Int)) - 1 = -1 := rfl
        clear hoF
        go_wp2_with fail
        go_ret
        exact ⟨g, by rw [HFl.out]; rfl, HO.out, HG.out, HQ.out⟩
      · obtain ⟨i, rfl⟩ : ∃ i, k = i + 1 := ⟨k - 1, by omega⟩
        have e1 : ((i + 1 : Nat) : Int) - 1 = (i : Int) := by omega
        obtain ⟨sk, hsk⟩ := run_take HS.out i
        have hil : i < l.length := by omega
        obtain ⟨t, ht, hkid⟩ := kids_back L HS.out (side0 s) hil hsk
        have HT : Hid (IsSide t) := sides_is L (side0 s) x (side0_is s) t (List.mem_of_getElem? ht)
        rw [← HF.out] at ht hkid
        have Ht := Lib.hid ht
        have Hkid := Lib.hid hkid
        obtain ⟨sn, hsn⟩ := run_take HS.out (i + 1)
        obtain ⟨hnp, _⟩ := run_next hil hsk hsn
        have HSK := Lib.hid hsk
        have hti := (HD.out.at_ hil HS.out).trans ht
        have Hti := Lib.hid hti
        have h8 := (parts_nat (HM.out l[i] (List.getElem_mem hil))).2
        clear ht hkid hsn hsk hti
        obtain ⟨ad, hBe, hb, c0, c1, c2⟩ := tok_at (HR.out.q HQ.out) hil
        subst hBe
        have CV : Hid (Calls Try.prog 29 #[.slice A L.length c, .agg #[.int .i64 l[i].1, .string l[i].2.1, .int .i64 l[i].2.2]] wr fun e w' => e = .returned (.string (howV L l[i])) ∧ Q wr w') := vary8_any A L.length c L l[i] wr rfl ((HL.out.q (Nat.le_refl _) HQ.out).more HQ.out.size) hl8 (HM.out l[i] (List.getElem_mem hil))
        have HP := Lib.hid (howV_parts (L := L) (HM.out l[i] (List.getElem_mem hil)))
        generalize howV L l[i] = hv at *
        have hv8 : hv.size ≤ 8 := by rcases HP.out with ⟨h, _⟩ | ⟨h, _⟩ <;> omega
        rw [e1]
        go_wp2_with (go_at_call 29; refine CV.out.mono ?_; rintro e w5 ⟨rfl, q5⟩; have HO5 := Lib.hid (HO.out.q q5); have HGr5 : Hid (w3.grownBy w5 (some g)) := grown_trans HGr.out (grows_q q5 _); clear q5)
        clear c0 c1 c2 hb CV HO HGr
        obtain ⟨K, hK⟩ : ∃ K, K = backsF (sk.take (np l[i])) i := ⟨_, rfl⟩
        have hKl : K.length = np l[i] := by rw [hK, backsF_len, List.length_take]; omega
        have Hkid2 : Hid (∀ (q : Nat) (hq : q < K.length), K[q] = i - sumS (sk.take q) - 1 ∧ F[K[q]]? = some (turnB t (varyB L l[i] (np l[i] - 1 - q)))) := by subst hK; exact Hkid
        have HK := Lib.hid hK
        have HKl := Lib.hid hKl
        clear hK hKl Hkid
        go_loopw [12, 13] (fun part ii wr2 => ∃ (q p : Nat) (o2 : List UInt8), q ≤ hv.size ∧ p ≤ i ∧ part = .int .i64 ((p : Int) - 1) ∧ ii = .int .i64 ((hv.size : Int) - 1 - (q : Int)) ∧ Hid (p = i - sumS (sk.take q)) ∧ Hid (runS [] (l.take p) = some (sk.drop q)) ∧ Hid (OwnC wr2 g (cells8 o2)) ∧ Hid (o2.length = l.length) ∧ Hid (∀ y : Nat, o[y]? = F[y]? → o2[y]? = F[y]?) ∧ Hid (∀ (r : Nat) (hr : r < K.length), r < q → o2[K[r]]? = F[K[r]]?) ∧ Hid (Open66 l F o2) ∧ Hid (w3.grownBy wr2 (some g))) (fun _ ii _ => (intOf ii + 1).toNat)
        case atStart => exact ⟨0, i, o, Nat.zero_le _, Nat.le_refl _, rfl, by simp, by unfold Hid; simp [sumS], HSK, HO5, HOl, Lib.hid (fun _ h => h), Lib.hid (fun r hr h => absurd h (Nat.not_lt_zero _)), H6, HGr5⟩
        case round =>
          clear HO5 HGr5
          obtain ⟨q, p, o2, hq, hpi, rfl, rfl, HPQ, HRP, HO2, HO2l, HP2, HK2, H62, HGr2⟩ := hrel
          by_cases hlt : q < hv.size
          · obtain ⟨hsz, hvk⟩ : hv.size = np l[i] ∧ ∀ (k : Nat) (h : k < hv.size), hv[k] = varyB L l[i] k := by
              rcases HP.out with h | ⟨h, _⟩
              · exact h
              · omega
            have hql : q < sk.length := by omega
            have hqK : q < K.length := by rw [HKl.out]; omega
            have hd : sk.drop q = (sk[q]'hql) :: sk.drop (q + 1) := List.drop_eq_getElem_cons (by omega)
            have HRP2 := HRP.out
            rw [hd] at HRP2
            obtain ⟨hp0, hsp, hst, hnx, htr⟩ := back_one (by omega) HRP2
            clear htr
            have hs0 := size_pos (sk[q]'hql)
            obtain ⟨p', rfl⟩ : ∃ p', p = p' + 1 := ⟨p - 1, by omega⟩
            rw [Nat.add_sub_cancel] at hst
            obtain ⟨hKq, hFq⟩ := Hkid2.out q hqK
            have hKq' : K[q]'hqK = p' := by rw [hKq, ← HPQ.out]; rfl
            rw [hKq'] at hFq
            obtain ⟨j, hj⟩ : ∃ j, j = hv.size - 1 - q := ⟨_, rfl⟩
            have hjl : j < hv.size := by omega
            have hji : (hv.size : Int) - 1 - (q : Int) = (j : Int) := by omega
            have hvj := hvk j hjl
            have hj2 : np l[i] - 1 - q = j := by omega
            rw [hj2, ← hvj] at hFq
            have hpl : p' < o2.length := by rw [HO2l.out]; omega
            have hpl2 : p' < l.length := by omega
            obtain ⟨hci, _⟩ := HO2.out.2 i _ (cells8_at (HP2.out i (Hti.out.trans Ht.out.symm) |>.trans Ht.out))
            obtain ⟨hcy, hfy⟩ := HO2.out.2 p' _ (cells8_at (List.getElem?_eq_getElem hpl))
            have hcs := ((own_grown HSa.out HGr2.out HN1.out).2 p' _ (cellsI_at (show p' < (startsL l l.length).length by rw [startsL_len]; omega))).1
            rw [startsL_at l _ p' (by omega), hst] at hcs
            obtain ⟨p2, hp2⟩ : ∃ p2, p2 = p' + 1 - (sk[q]'hql).size := ⟨_, rfl⟩
            rw [← hp2] at hcs hnx
            have HPN : Hid (p2 = i - sumS (sk.take (q + 1))) := by
              unfold Hid
              rw [List.take_succ_eq_append_getElem (by omega), sumS_app]
              have := HPQ.out
              simp only [sumS]
              omega
            have hp2l : p2 ≤ i := by omega
            have hcs2 := (World.cell?_setCell_far wr ⟨g, p', none⟩ ⟨gs, p', none⟩ (.int .u8 ((turnB t hv[j]).toNat : Int)) (fun e => HN1.out e.symm)).trans hcs
            have CT : Hid (∀ W, OthersRead gm W → Calls Try.prog 30 #[.int .u8 (t.toNat : Int), .int .u8 (hv[j].toNat : Int), .map (some gm)] W fun e w' => e = .returned (.int .u8 ((turnB t hv[j]).toNat : Int)) ∧ W = w') := fun W h => turn8_any t hv[j] gm W HT.out h
            have HMr : Hid (OthersRead gm wr) := HM3.out.grown HGr2.out HN2.out
            generalize o2[p'] = oy at *
            have HFq := Lib.hid hFq
            have Hpl := Lib.hid hpl
            have HNX := Lib.hid hnx
            have HKq := Lib.hid hKq'
            have Hj := Lib.hid hj
            have HPT := Lib.hid (put_same hpl hFq)
            rw [hji, show ((p' + 1 : Nat) : Int) - 1 = (p' : Int) by omega]
            clear hd HRP2 hst hnx hKq hKq' hFq hvj hvk hj hj2 hji hcs hs0 hp2 hsp hp0 hsz
            have hci2 : (wr.setCell ⟨g, p', none⟩ (.int .u8 ((turnB t hv[j]).toNat : Int))).drew.cell? ⟨g, i, none⟩ = some (.int .u8 (t.toNat : Int)) := setCell_ne (v := .int .u8 ((turnB t hv[j]).toNat : Int)) (show p' ≠ i by omega) hci
            have HMd := Lib.hid (HMr.out.q ((Q.refl wr).drew))
            go_wp2_with fail
            go_region_held3 (fun w' => w'.cell? ⟨g, i, none⟩ = some (.int .u8 (t.toNat : Int)))
              (first
                | (with_reducible exact hci)
                | (with_reducible exact hci2)
                | go_keep)
              (first
                | (go_at_call 30; refine (CT.out _ HMd.out).mono ?_; rintro e w7 ⟨rfl, rfl⟩)
                | fail)
            all_goals
              go_wp2_with fail
              have HO3 : Hid (OwnC (wr.setCell ⟨g, p', none⟩ (.int .u8 ((turnB t hv[j]).toNat : Int))).drew g (cells8 (o2.set p' (turnB t hv[j])))) := own_set8 HO2.out Hpl.out (turnB t hv[j])
              have hgr := grown_trans HGr2.out (setCell_grown wr g p' (.int .u8 ((turnB t hv[j]).toNat : Int)))
              have HG3 : Hid (w3.grownBy (wr.setCell ⟨g, p', none⟩ (.int .u8 ((turnB t hv[j]).toNat : Int))).drew (some g)) := ⟨hgr.os, hgr.tape, hgr.output, hgr.size, hgr.block⟩
              have HK3 : Hid (∀ (r : Nat) (hr : r < K.length), r < q + 1 → (o2.set p' (turnB t hv[j]))[K[r]]? = F[K[r]]?) := fun r hr hrq => by
                rcases Nat.lt_succ_iff_lt_or_eq.1 hrq with h | h
                · exact HPT.out.1 _ (HK2.out r hr h)
                · subst h
                  rw [HKq.out]
                  exact HPT.out.2
              clear hgr
              go_roundw
              case rel => exact ⟨q + 1, p2, o2.set p' (turnB t hv[j]), by omega, hp2l, rfl, by have := Hj.out; congr 1; omega, HPN, HNX, HO3, by unfold Hid; rw [List.length_set]; exact HO2l.out, Lib.hid (fun y h => HPT.out.1 y (HP2.out y h)), HK3, Lib.hid (H62.out.put Hpl.out HFq.out), HG3⟩
              case measure => simp [intOf]
          · obtain rfl : q = hv.size := by omega
            have hk : ∀ (r : Nat) (hr : r < K.length), o2[K[r]]? = F[K[r]]? := fun r hr => by
              rcases HP.out with ⟨hsz, _⟩ | ⟨_, hall⟩
              · exact HK2.out r hr (by rw [hsz, ← HKl.out]; exact hr)
              · have h1 := (Hkid2.out r hr).2
                have hb0 : 0 < np l[i] := by rw [← HKl.out]; omega
                rw [hall _ _ (by omega)] at h1
                have hKr : K[r] < l.length := by rw [← HFl.out]; exact (List.getElem?_eq_some_iff.1 h1).1
                rcases H62.out K[r] hKr with h2 | h2
                · exact h2
                · rw [h2, h1]
            have HD2 : Hid (Done l F o2 i) := by
              have hK := HK.out
              subst hK
              exact HD.out.step hil HS.out HSK.out (by rw [HO2l.out, HOl.out]) HP2.out (fun kk hK => by rw [List.getElem_reverse]; exact hk _ _)
            have e2 : (hv.size : Int) - 1 - (hv.size : Int) = -1 := by omega
            rw [e2]
            clear hk HK2 HP2 e2
            go_wp2_with fail
            go_roundw
            case rel => exact ⟨i, o2, by omega, by go_num, HO2, HO2l, HD2, H62, HGr2⟩
            case measure => simp [intOf]
  · have HE : Hid (side0 s = s) := by rw [Hid, HS0.out, if_pos (.inr h3)]
    rw [decide_eq_false (fun h => by rw [h3] at h; exact absurd h (by decide))] at e76
    rw [decide_eq_true h3] at e82
    clear h3 HS0
    generalize hsv : (s.toNat : Int) = sv at *
    have HSV := Lib.hid hsv
    clear hsv
    go_enter Try.func14, Try.ntmps14
    go_wp2_with (first
      | (go_at_call 26; refine CR.out.mono ?_; rintro e w1 ⟨g, rfl, hO, hg, q1⟩; have HO1 := Lib.hid hO; have HQ1 := Lib.hid (HQ0.out.trans q1); have HG : Hid (w.heap.size ≤ g) := Nat.le_trans HQ0.out.size hg; clear hO hg q1; obtain ⟨ce, fe⟩ := HCF.out g w1 HO1.out; have HQs : Hid (Q w (w1.setCell ⟨g, l.length - 1, none⟩ (.int .u8 sv))) := Lib.hid (grown_q (setCell_grown _ _ _ _) HQ1.out HG.out))
      | (go_at_call 27; refine (CS.out _ HQs.out).mono ?_; rintro e w2 ⟨gs, rfl, hS, hgs, q2⟩; have HS2 := Lib.hid hS; have HQ2 := Lib.hid q2; have HGS := Lib.hid hgs; clear hS hgs q2)
      | (go_at_call 28; refine (CO.out _).mono ?_; rintro e w3 ⟨gm, rfl, hM, hgm, q3⟩; have HM3 := Lib.hid hM; have HQ3 := Lib.hid q3; have HGM := Lib.hid hgm; clear hM hgm q3))
    have HOa : Hid (OwnC w3 g (cells8 ((List.replicate l.length 66).set (l.length - 1) (side0 s)))) := by
      rw [HE.out]
      have := own_set8 HO1.out (k := l.length - 1) (by simp; omega) s
      rw [HSV.out] at this
      exact this.q (HQ2.out.trans HQ3.out)
    have HW : Hid (Q w w3) := HQs.out.trans (HQ2.out.trans HQ3.out)
    have HSa : Hid (OwnC w3 gs (cellsI (startsL l l.length))) := HS2.out.q HQ3.out
    have HN1 : Hid (gs ≠ g) := Lib.hid (fun e => by have h1 := HO1.out.1; have h2 := HGS.out; simp at h2; omega)
    have HN2 : Hid (gm ≠ g) := Lib.hid (fun e => by have h1 := HO1.out.1; have h2 := HGM.out; have h4 := HQ2.out.size; simp at h4; omega)
    clear HO1 HQ1 HQs HQ2 HQ3 HS2 HGS HGM HSV HE ce fe
    obtain ⟨h66, hlast⟩ := first66 hpos HLast.out
    have HD0 : Hid (Done l F ((List.replicate l.length 66).set (l.length - 1) (side0 s)) l.length) := HDF.out _ (by simp) hlast
    have H66 := Lib.hid h66
    have HOl : Hid (((List.replicate l.length 66).set (l.length - 1) (side0 s)).length = l.length) := by unfold Hid; simp
    clear h66 hlast
    generalize (List.replicate l.length 66).set (l.length - 1) (side0 s) = o0 at *
    go_loopw [10] (fun at_ wr => ∃ (k : Nat) (o : List UInt8), k ≤ l.length ∧ at_ = .int .i64 ((k : Int) - 1) ∧ Hid (OwnC wr g (cells8 o)) ∧ Hid (o.length = l.length) ∧ Hid (Done l F o k) ∧ Hid (Open66 l F o) ∧ Hid (w3.grownBy wr (some g))) (fun at_ _ => (intOf at_ + 1).toNat)
    case atStart => exact ⟨l.length, o0, Nat.le_refl _, rfl, HOa, HOl, HD0, H66, World.grownBy.refl _ _⟩
    case round =>
      clear HOa HD0 H66 HOl
      obtain ⟨k, o, hk, rfl, HO, HOl, HD, H6, HGr⟩ := hrel
      have HQ : Hid (Q w wr) := grown_q HGr.out HW.out HG.out
      rcases Nat.eq_zero_or_pos k with hk0 | hk0
      · subst hk0
        have hoF := HD.out.all
        rw [hoF] at HO
        have e1 : (((0 : Nat) : Int)) - 1 = -1 := rfl
        clear hoF
        go_wp2_with fail
        go_ret
        exact ⟨g, by rw [HFl.out]; rfl, HO.out, HG.out, HQ.out⟩
      · obtain ⟨i, rfl⟩ : ∃ i, k = i + 1 := ⟨k - 1, by omega⟩
        have e1 : ((i + 1 : Nat) : Int) - 1 = (i : Int) := by omega
        obtain ⟨sk, hsk⟩ := run_take HS.out i
        have hil : i < l.length := by omega
        obtain ⟨t, ht, hkid⟩ := kids_back L HS.out (side0 s) hil hsk
        have HT : Hid (IsSide t) := sides_is L (side0 s) x (side0_is s) t (List.mem_of_getElem? ht)
        rw [← HF.out] at ht hkid
        have Ht := Lib.hid ht
        have Hkid := Lib.hid hkid
        obtain ⟨sn, hsn⟩ := run_take HS.out (i + 1)
        obtain ⟨hnp, _⟩ := run_next hil hsk hsn
        have HSK := Lib.hid hsk
        have hti := (HD.out.at_ hil HS.out).trans ht
        have Hti := Lib.hid hti
        have h8 := (parts_nat (HM.out l[i] (List.getElem_mem hil))).2
        clear ht hkid hsn hsk hti
        obtain ⟨ad, hBe, hb, c0, c1, c2⟩ := tok_at (HR.out.q HQ.out) hil
        subst hBe
        have CV : Hid (Calls Try.prog 29 #[.slice A L.length c, .agg #[.int .i64 l[i].1, .string l[i].2.1, .int .i64 l[i].2.2]] wr fun e w' => e = .returned (.string (howV L l[i])) ∧ Q wr w') := vary8_any A L.length c L l[i] wr rfl ((HL.out.q (Nat.le_refl _) HQ.out).more HQ.out.size) hl8 (HM.out l[i] (List.getElem_mem hil))
        have HP := Lib.hid (howV_parts (L := L) (HM.out l[i] (List.getElem_mem hil)))
        generalize howV L l[i] = hv at *
        have hv8 : hv.size ≤ 8 := by rcases HP.out with ⟨h, _⟩ | ⟨h, _⟩ <;> omega
        rw [e1]
        go_wp2_with (go_at_call 29; refine CV.out.mono ?_; rintro e w5 ⟨rfl, q5⟩; have HO5 := Lib.hid (HO.out.q q5); have HGr5 : Hid (w3.grownBy w5 (some g)) := grown_trans HGr.out (grows_q q5 _); clear q5)
        clear c0 c1 c2 hb CV HO HGr
        obtain ⟨K, hK⟩ : ∃ K, K = backsF (sk.take (np l[i])) i := ⟨_, rfl⟩
        have hKl : K.length = np l[i] := by rw [hK, backsF_len, List.length_take]; omega
        have Hkid2 : Hid (∀ (q : Nat) (hq : q < K.length), K[q] = i - sumS (sk.take q) - 1 ∧ F[K[q]]? = some (turnB t (varyB L l[i] (np l[i] - 1 - q)))) := by subst hK; exact Hkid
        have HK := Lib.hid hK
        have HKl := Lib.hid hKl
        clear hK hKl Hkid
        go_loopw [12, 13] (fun part ii wr2 => ∃ (q p : Nat) (o2 : List UInt8), q ≤ hv.size ∧ p ≤ i ∧ part = .int .i64 ((p : Int) - 1) ∧ ii = .int .i64 ((hv.size : Int) - 1 - (q : Int)) ∧ Hid (p = i - sumS (sk.take q)) ∧ Hid (runS [] (l.take p) = some (sk.drop q)) ∧ Hid (OwnC wr2 g (cells8 o2)) ∧ Hid (o2.length = l.length) ∧ Hid (∀ y : Nat, o[y]? = F[y]? → o2[y]? = F[y]?) ∧ Hid (∀ (r : Nat) (hr : r < K.length), r < q → o2[K[r]]? = F[K[r]]?) ∧ Hid (Open66 l F o2) ∧ Hid (w3.grownBy wr2 (some g))) (fun _ ii _ => (intOf ii + 1).toNat)
        case atStart => exact ⟨0, i, o, Nat.zero_le _, Nat.le_refl _, rfl, by simp, by unfold Hid; simp [sumS], HSK, HO5, HOl, Lib.hid (fun _ h => h), Lib.hid (fun r hr h => absurd h (Nat.not_lt_zero _)), H6, HGr5⟩
        case round =>
          clear HO5 HGr5
          obtain ⟨q, p, o2, hq, hpi, rfl, rfl, HPQ, HRP, HO2, HO2l, HP2, HK2, H62, HGr2⟩ := hrel
          by_cases hlt : q < hv.size
          · obtain ⟨hsz, hvk⟩ : hv.size = np l[i] ∧ ∀ (k : Nat) (h : k < hv.size), hv[k] = varyB L l[i] k := by
              rcases HP.out with h | ⟨h, _⟩
              · exact h
              · omega
            have hql : q < sk.length := by omega
            have hqK : q < K.length := by rw [HKl.out]; omega
            have hd : sk.drop q = (sk[q]'hql) :: sk.drop (q + 1) := List.drop_eq_getElem_cons (by omega)
            have HRP2 := HRP.out
            rw [hd] at HRP2
            obtain ⟨hp0, hsp, hst, hnx, htr⟩ := back_one (by omega) HRP2
            clear htr
            have hs0 := size_pos (sk[q]'hql)
            obtain ⟨p', rfl⟩ : ∃ p', p = p' + 1 := ⟨p - 1, by omega⟩
            rw [Nat.add_sub_cancel] at hst
            obtain ⟨hKq, hFq⟩ := Hkid2.out q hqK
            have hKq' : K[q]'hqK = p' := by rw [hKq, ← HPQ.out]; rfl
            rw [hKq'] at hFq
            obtain ⟨j, hj⟩ : ∃ j, j = hv.size - 1 - q := ⟨_, rfl⟩
            have hjl : j < hv.size := by omega
            have hji : (hv.size : Int) - 1 - (q : Int) = (j : Int) := by omega
            have hvj := hvk j hjl
            have hj2 : np l[i] - 1 - q = j := by omega
            rw [hj2, ← hvj] at hFq
            have hpl : p' < o2.length := by rw [HO2l.out]; omega
            have hpl2 : p' < l.length := by omega
            obtain ⟨hci, _⟩ := HO2.out.2 i _ (cells8_at (HP2.out i (Hti.out.trans Ht.out.symm) |>.trans Ht.out))
            obtain ⟨hcy, hfy⟩ := HO2.out.2 p' _ (cells8_at (List.getElem?_eq_getElem hpl))
            have hcs := ((own_grown HSa.out HGr2.out HN1.out).2 p' _ (cellsI_at (show p' < (startsL l l.length).length by rw [startsL_len]; omega))).1
            rw [startsL_at l _ p' (by omega), hst] at hcs
            obtain ⟨p2, hp2⟩ : ∃ p2, p2 = p' + 1 - (sk[q]'hql).size := ⟨_, rfl⟩
            rw [← hp2] at hcs hnx
            have HPN : Hid (p2 = i - sumS (sk.take (q + 1))) := by
              unfold Hid
              rw [List.take_succ_eq_append_getElem (by omega), sumS_app]
              have := HPQ.out
              simp only [sumS]
              omega
            have hp2l : p2 ≤ i := by omega
            have hcs2 := (World.cell?_setCell_far wr ⟨g, p', none⟩ ⟨gs, p', none⟩ (.int .u8 ((turnB t hv[j]).toNat : Int)) (fun e => HN1.out e.symm)).trans hcs
            have CT : Hid (∀ W, OthersRead gm W → Calls Try.prog 30 #[.int .u8 (t.toNat : Int), .int .u8 (hv[j].toNat : Int), .map (some gm)] W fun e w' => e = .returned (.int .u8 ((turnB t hv[j]).toNat : Int)) ∧ W = w') := fun W h => turn8_any t hv[j] gm W HT.out h
            have HMr : Hid (OthersRead gm wr) := HM3.out.grown HGr2.out HN2.out
            generalize o2[p'] = oy at *
            have HFq := Lib.hid hFq
            have Hpl := Lib.hid hpl
            have HNX := Lib.hid hnx
            have HKq := Lib.hid hKq'
            have Hj := Lib.hid hj
            have HPT := Lib.hid (put_same hpl hFq)
            rw [hji, show ((p' + 1 : Nat) : Int) - 1 = (p' : Int) by omega]
            clear hd HRP2 hst hnx hKq hKq' hFq hvj hvk hj hj2 hji hcs hs0 hp2 hsp hp0 hsz
            have hci2 : (wr.setCell ⟨g, p', none⟩ (.int .u8 ((turnB t hv[j]).toNat : Int))).drew.cell? ⟨g, i, none⟩ = some (.int .u8 (t.toNat : Int)) := setCell_ne (v := .int .u8 ((turnB t hv[j]).toNat : Int)) (show p' ≠ i by omega) hci
            have HMd := Lib.hid (HMr.out.q ((Q.refl wr).drew))
            go_wp2_with fail
            go_region_held3 (fun w' => w'.cell? ⟨g, i, none⟩ = some (.int .u8 (t.toNat : Int)))
              (first
                | (with_reducible exact hci)
                | (with_reducible exact hci2)
                | go_keep)
              (first
                | (go_at_call 30; refine (CT.out _ HMd.out).mono ?_; rintro e w7 ⟨rfl, rfl⟩)
                | fail)
            all_goals
              go_wp2_with fail
              have HO3 : Hid (OwnC (wr.setCell ⟨g, p', none⟩ (.int .u8 ((turnB t hv[j]).toNat : Int))).drew g (cells8 (o2.set p' (turnB t hv[j])))) := own_set8 HO2.out Hpl.out (turnB t hv[j])
              have hgr := grown_trans HGr2.out (setCell_grown wr g p' (.int .u8 ((turnB t hv[j]).toNat : Int)))
              have HG3 : Hid (w3.grownBy (wr.setCell ⟨g, p', none⟩ (.int .u8 ((turnB t hv[j]).toNat : Int))).drew (some g)) := ⟨hgr.os, hgr.tape, hgr.output, hgr.size, hgr.block⟩
              have HK3 : Hid (∀ (r : Nat) (hr : r < K.length), r < q + 1 → (o2.set p' (turnB t hv[j]))[K[r]]? = F[K[r]]?) := fun r hr hrq => by
                rcases Nat.lt_succ_iff_lt_or_eq.1 hrq with h | h
                · exact HPT.out.1 _ (HK2.out r hr h)
                · subst h
                  rw [HKq.out]
                  exact HPT.out.2
              clear hgr
              go_roundw
              case rel => exact ⟨q + 1, p2, o2.set p' (turnB t hv[j]), by omega, hp2l, rfl, by have := Hj.out; congr 1; omega, HPN, HNX, HO3, by unfold Hid; rw [List.length_set]; exact HO2l.out, Lib.hid (fun y h => HPT.out.1 y (HP2.out y h)), HK3, Lib.hid (H62.out.put Hpl.out HFq.out), HG3⟩
              case measure => simp [intOf]
          · obtain rfl : q = hv.size := by omega
            have hk : ∀ (r : Nat) (hr : r < K.length), o2[K[r]]? = F[K[r]]? := fun r hr => by
              rcases HP.out with ⟨hsz, _⟩ | ⟨_, hall⟩
              · exact HK2.out r hr (by rw [hsz, ← HKl.out]; exact hr)
              · have h1 := (Hkid2.out r hr).2
                have hb0 : 0 < np l[i] := by rw [← HKl.out]; omega
                rw [hall _ _ (by omega)] at h1
                have hKr : K[r] < l.length := by rw [← HFl.out]; exact (List.getElem?_eq_some_iff.1 h1).1
                rcases H62.out K[r] hKr with h2 | h2
                · exact h2
                · rw [h2, h1]
            have HD2 : Hid (Done l F o2 i) := by
              have hK := HK.out
              subst hK
              exact HD.out.step hil HS.out HSK.out (by rw [HO2l.out, HOl.out]) HP2.out (fun kk hK => by rw [List.getElem_reverse]; exact hk _ _)
            have e2 : (hv.size : Int) - 1 - (hv.size : Int) = -1 := by omega
            rw [e2]
            clear hk HK2 HP2 e2
            go_wp2_with fail
            go_roundw
            case rel => exact ⟨i, o2, by omega, by go_num, HO2, HO2l, HD2, H62, HGr2⟩
            case measure => simp [intOf]
  · have HE : Hid (side0 s = 66) := by rw [Hid, HS0.out, if_neg h3]
    rw [decide_eq_false (fun h => h3 (.inl h))] at e76
    rw [decide_eq_false (fun h => h3 (.inr h))] at e82
    clear h3 HS0
    generalize (s.toNat : Int) = sv at *
    go_enter Try.func14, Try.ntmps14
    go_wp2_with (first
      | (go_at_call 26; refine CR.out.mono ?_; rintro e w1 ⟨g, rfl, hO, hg, q1⟩; have HO1 := Lib.hid hO; have HQ1 := Lib.hid (HQ0.out.trans q1); have HG : Hid (w.heap.size ≤ g) := Nat.le_trans HQ0.out.size hg; clear hO hg q1)
      | (go_at_call 27; refine (CS.out _ HQ1.out).mono ?_; rintro e w2 ⟨gs, rfl, hS, hgs, q2⟩; have HS2 := Lib.hid hS; have HQ2 := Lib.hid q2; have HGS := Lib.hid hgs; clear hS hgs q2)
      | (go_at_call 28; refine (CO.out _).mono ?_; rintro e w3 ⟨gm, rfl, hM, hgm, q3⟩; have HM3 := Lib.hid hM; have HQ3 := Lib.hid q3; have HGM := Lib.hid hgm; clear hM hgm q3))
    have HOa : Hid (OwnC w3 g (cells8 ((List.replicate l.length 66).set (l.length - 1) (side0 s)))) := by
      rw [HE.out, List.set_replicate_self]
      exact HO1.out.q (HQ2.out.trans HQ3.out)
    have HW : Hid (Q w w3) := HQ1.out.trans (HQ2.out.trans HQ3.out)
    have HSa : Hid (OwnC w3 gs (cellsI (startsL l l.length))) := HS2.out.q HQ3.out
    have HN1 : Hid (gs ≠ g) := Lib.hid (fun e => by have h1 := HO1.out.1; have h2 := HGS.out; omega)
    have HN2 : Hid (gm ≠ g) := Lib.hid (fun e => by have h1 := HO1.out.1; have h2 := HGM.out; have h4 := HQ2.out.size; omega)
    clear HO1 HQ1 HQ2 HQ3 HS2 HGS HGM HE
    obtain ⟨h66, hlast⟩ := first66 hpos HLast.out
    have HD0 : Hid (Done l F ((List.replicate l.length 66).set (l.length - 1) (side0 s)) l.length) := HDF.out _ (by simp) hlast
    have H66 := Lib.hid h66
    have HOl : Hid (((List.replicate l.length 66).set (l.length - 1) (side0 s)).length = l.length) := by unfold Hid; simp
    clear h66 hlast
    generalize (List.replicate l.length 66).set (l.length - 1) (side0 s) = o0 at *
    go_loopw [10] (fun at_ wr => ∃ (k : Nat) (o : List UInt8), k ≤ l.length ∧ at_ = .int .i64 ((k : Int) - 1) ∧ Hid (OwnC wr g (cells8 o)) ∧ Hid (o.length = l.length) ∧ Hid (Done l F o k) ∧ Hid (Open66 l F o) ∧ Hid (w3.grownBy wr (some g))) (fun at_ _ => (intOf at_ + 1).toNat)
    case atStart => exact ⟨l.length, o0, Nat.le_refl _, rfl, HOa, HOl, HD0, H66, World.grownBy.refl _ _⟩
    case round =>
      clear HOa HD0 H66 HOl
      obtain ⟨k, o, hk, rfl, HO, HOl, HD, H6, HGr⟩ := hrel
      have HQ : Hid (Q w wr) := grown_q HGr.out HW.out HG.out
      rcases Nat.eq_zero_or_pos k with hk0 | hk0
      · subst hk0
        have hoF := HD.out.all
        rw [hoF] at HO
        have e1 : (((0 : Nat) : Int)) - 1 = -1 := rfl
        clear hoF
        go_wp2_with fail
        go_ret
        exact ⟨g, by rw [HFl.out]; rfl, HO.out, HG.out, HQ.out⟩
      · obtain ⟨i, rfl⟩ : ∃ i, k = i + 1 := ⟨k - 1, by omega⟩
        have e1 : ((i + 1 : Nat) : Int) - 1 = (i : Int) := by omega
        obtain ⟨sk, hsk⟩ := run_take HS.out i
        have hil : i < l.length := by omega
        obtain ⟨t, ht, hkid⟩ := kids_back L HS.out (side0 s) hil hsk
        have HT : Hid (IsSide t) := sides_is L (side0 s) x (side0_is s) t (List.mem_of_getElem? ht)
        rw [← HF.out] at ht hkid
        have Ht := Lib.hid ht
        have Hkid := Lib.hid hkid
        obtain ⟨sn, hsn⟩ := run_take HS.out (i + 1)
        obtain ⟨hnp, _⟩ := run_next hil hsk hsn
        have HSK := Lib.hid hsk
        have hti := (HD.out.at_ hil HS.out).trans ht
        have Hti := Lib.hid hti
        have h8 := (parts_nat (HM.out l[i] (List.getElem_mem hil))).2
        clear ht hkid hsn hsk hti
        obtain ⟨ad, hBe, hb, c0, c1, c2⟩ := tok_at (HR.out.q HQ.out) hil
        subst hBe
        have CV : Hid (Calls Try.prog 29 #[.slice A L.length c, .agg #[.int .i64 l[i].1, .string l[i].2.1, .int .i64 l[i].2.2]] wr fun e w' => e = .returned (.string (howV L l[i])) ∧ Q wr w') := vary8_any A L.length c L l[i] wr rfl ((HL.out.q (Nat.le_refl _) HQ.out).more HQ.out.size) hl8 (HM.out l[i] (List.getElem_mem hil))
        have HP := Lib.hid (howV_parts (L := L) (HM.out l[i] (List.getElem_mem hil)))
        generalize howV L l[i] = hv at *
        have hv8 : hv.size ≤ 8 := by rcases HP.out with ⟨h, _⟩ | ⟨h, _⟩ <;> omega
        rw [e1]
        go_wp2_with (go_at_call 29; refine CV.out.mono ?_; rintro e w5 ⟨rfl, q5⟩; have HO5 := Lib.hid (HO.out.q q5); have HGr5 : Hid (w3.grownBy w5 (some g)) := grown_trans HGr.out (grows_q q5 _); clear q5)
        clear c0 c1 c2 hb CV HO HGr
        obtain ⟨K, hK⟩ : ∃ K, K = backsF (sk.take (np l[i])) i := ⟨_, rfl⟩
        have hKl : K.length = np l[i] := by rw [hK, backsF_len, List.length_take]; omega
        have Hkid2 : Hid (∀ (q : Nat) (hq : q < K.length), K[q] = i - sumS (sk.take q) - 1 ∧ F[K[q]]? = some (turnB t (varyB L l[i] (np l[i] - 1 - q)))) := by subst hK; exact Hkid
        have HK := Lib.hid hK
        have HKl := Lib.hid hKl
        clear hK hKl Hkid
        go_loopw [12, 13] (fun part ii wr2 => ∃ (q p : Nat) (o2 : List UInt8), q ≤ hv.size ∧ p ≤ i ∧ part = .int .i64 ((p : Int) - 1) ∧ ii = .int .i64 ((hv.size : Int) - 1 - (q : Int)) ∧ Hid (p = i - sumS (sk.take q)) ∧ Hid (runS [] (l.take p) = some (sk.drop q)) ∧ Hid (OwnC wr2 g (cells8 o2)) ∧ Hid (o2.length = l.length) ∧ Hid (∀ y : Nat, o[y]? = F[y]? → o2[y]? = F[y]?) ∧ Hid (∀ (r : Nat) (hr : r < K.length), r < q → o2[K[r]]? = F[K[r]]?) ∧ Hid (Open66 l F o2) ∧ Hid (w3.grownBy wr2 (some g))) (fun _ ii _ => (intOf ii + 1).toNat)
        case atStart => exact ⟨0, i, o, Nat.zero_le _, Nat.le_refl _, rfl, by simp, by unfold Hid; simp [sumS], HSK, HO5, HOl, Lib.hid (fun _ h => h), Lib.hid (fun r hr h => absurd h (Nat.not_lt_zero _)), H6, HGr5⟩
        case round =>
          clear HO5 HGr5
          obtain ⟨q, p, o2, hq, hpi, rfl, rfl, HPQ, HRP, HO2, HO2l, HP2, HK2, H62, HGr2⟩ := hrel
          by_cases hlt : q < hv.size
          · obtain ⟨hsz, hvk⟩ : hv.size = np l[i] ∧ ∀ (k : Nat) (h : k < hv.size), hv[k] = varyB L l[i] k := by
              rcases HP.out with h | ⟨h, _⟩
              · exact h
              · omega
            have hql : q < sk.length := by omega
            have hqK : q < K.length := by rw [HKl.out]; omega
            have hd : sk.drop q = (sk[q]'hql) :: sk.drop (q + 1) := List.drop_eq_getElem_cons (by omega)
            have HRP2 := HRP.out
            rw [hd] at HRP2
            obtain ⟨hp0, hsp, hst, hnx, htr⟩ := back_one (by omega) HRP2
            clear htr
            have hs0 := size_pos (sk[q]'hql)
            obtain ⟨p', rfl⟩ : ∃ p', p = p' + 1 := ⟨p - 1, by omega⟩
            rw [Nat.add_sub_cancel] at hst
            obtain ⟨hKq, hFq⟩ := Hkid2.out q hqK
            have hKq' : K[q]'hqK = p' := by rw [hKq, ← HPQ.out]; rfl
            rw [hKq'] at hFq
            obtain ⟨j, hj⟩ : ∃ j, j = hv.size - 1 - q := ⟨_, rfl⟩
            have hjl : j < hv.size := by omega
            have hji : (hv.size : Int) - 1 - (q : Int) = (j : Int) := by omega
            have hvj := hvk j hjl
            have hj2 : np l[i] - 1 - q = j := by omega
            rw [hj2, ← hvj] at hFq
            have hpl : p' < o2.length := by rw [HO2l.out]; omega
            have hpl2 : p' < l.length := by omega
            obtain ⟨hci, _⟩ := HO2.out.2 i _ (cells8_at (HP2.out i (Hti.out.trans Ht.out.symm) |>.trans Ht.out))
            obtain ⟨hcy, hfy⟩ := HO2.out.2 p' _ (cells8_at (List.getElem?_eq_getElem hpl))
            have hcs := ((own_grown HSa.out HGr2.out HN1.out).2 p' _ (cellsI_at (show p' < (startsL l l.length).length by rw [startsL_len]; omega))).1
            rw [startsL_at l _ p' (by omega), hst] at hcs
            obtain ⟨p2, hp2⟩ : ∃ p2, p2 = p' + 1 - (sk[q]'hql).size := ⟨_, rfl⟩
            rw [← hp2] at hcs hnx
            have HPN : Hid (p2 = i - sumS (sk.take (q + 1))) := by
              unfold Hid
              rw [List.take_succ_eq_append_getElem (by omega), sumS_app]
              have := HPQ.out
              simp only [sumS]
              omega
            have hp2l : p2 ≤ i := by omega
            have hcs2 := (World.cell?_setCell_far wr ⟨g, p', none⟩ ⟨gs, p', none⟩ (.int .u8 ((turnB t hv[j]).toNat : Int)) (fun e => HN1.out e.symm)).trans hcs
            have CT : Hid (∀ W, OthersRead gm W → Calls Try.prog 30 #[.int .u8 (t.toNat : Int), .int .u8 (hv[j].toNat : Int), .map (some gm)] W fun e w' => e = .returned (.int .u8 ((turnB t hv[j]).toNat : Int)) ∧ W = w') := fun W h => turn8_any t hv[j] gm W HT.out h
            have HMr : Hid (OthersRead gm wr) := HM3.out.grown HGr2.out HN2.out
            generalize o2[p'] = oy at *
            have HFq := Lib.hid hFq
            have Hpl := Lib.hid hpl
            have HNX := Lib.hid hnx
            have HKq := Lib.hid hKq'
            have Hj := Lib.hid hj
            have HPT := Lib.hid (put_same hpl hFq)
            rw [hji, show ((p' + 1 : Nat) : Int) - 1 = (p' : Int) by omega]
            clear hd HRP2 hst hnx hKq hKq' hFq hvj hvk hj hj2 hji hcs hs0 hp2 hsp hp0 hsz
            have hci2 : (wr.setCell ⟨g, p', none⟩ (.int .u8 ((turnB t hv[j]).toNat : Int))).drew.cell? ⟨g, i, none⟩ = some (.int .u8 (t.toNat : Int)) := setCell_ne (v := .int .u8 ((turnB t hv[j]).toNat : Int)) (show p' ≠ i by omega) hci
            have HMd := Lib.hid (HMr.out.q ((Q.refl wr).drew))
            go_wp2_with fail
            go_region_held3 (fun w' => w'.cell? ⟨g, i, none⟩ = some (.int .u8 (t.toNat : Int)))
              (first
                | (with_reducible exact hci)
                | (with_reducible exact hci2)
                | go_keep)
              (first
                | (go_at_call 30; refine (CT.out _ HMd.out).mono ?_; rintro e w7 ⟨rfl, rfl⟩)
                | fail)
            all_goals
              go_wp2_with fail
              have HO3 : Hid (OwnC (wr.setCell ⟨g, p', none⟩ (.int .u8 ((turnB t hv[j]).toNat : Int))).drew g (cells8 (o2.set p' (turnB t hv[j])))) := own_set8 HO2.out Hpl.out (turnB t hv[j])
              have hgr := grown_trans HGr2.out (setCell_grown wr g p' (.int .u8 ((turnB t hv[j]).toNat : Int)))
              have HG3 : Hid (w3.grownBy (wr.setCell ⟨g, p', none⟩ (.int .u8 ((turnB t hv[j]).toNat : Int))).drew (some g)) := ⟨hgr.os, hgr.tape, hgr.output, hgr.size, hgr.block⟩
              have HK3 : Hid (∀ (r : Nat) (hr : r < K.length), r < q + 1 → (o2.set p' (turnB t hv[j]))[K[r]]? = F[K[r]]?) := fun r hr hrq => by
                rcases Nat.lt_succ_iff_lt_or_eq.1 hrq with h | h
                · exact HPT.out.1 _ (HK2.out r hr h)
                · subst h
                  rw [HKq.out]
                  exact HPT.out.2
              clear hgr
              go_roundw
              case rel => exact ⟨q + 1, p2, o2.set p' (turnB t hv[j]), by omega, hp2l, rfl, by have := Hj.out; congr 1; omega, HPN, HNX, HO3, by unfold Hid; rw [List.length_set]; exact HO2l.out, Lib.hid (fun y h => HPT.out.1 y (HP2.out y h)), HK3, Lib.hid (H62.out.put Hpl.out HFq.out), HG3⟩
              case measure => simp [intOf]
          · obtain rfl : q = hv.size := by omega
            have hk : ∀ (r : Nat) (hr : r < K.length), o2[K[r]]? = F[K[r]]? := fun r hr => by
              rcases HP.out with ⟨hsz, _⟩ | ⟨_, hall⟩
              · exact HK2.out r hr (by rw [hsz, ← HKl.out]; exact hr)
              · have h1 := (Hkid2.out r hr).2
                have hb0 : 0 < np l[i] := by rw [← HKl.out]; omega
                rw [hall _ _ (by omega)] at h1
                have hKr : K[r] < l.length := by rw [← HFl.out]; exact (List.getElem?_eq_some_iff.1 h1).1
                rcases H62.out K[r] hKr with h2 | h2
                · exact h2
                · rw [h2, h1]
            have HD2 : Hid (Done l F o2 i) := by
              have hK := HK.out
              subst hK
              exact HD.out.step hil HS.out HSK.out (by rw [HO2l.out, HOl.out]) HP2.out (fun kk hK => by rw [List.getElem_reverse]; exact hk _ _)
            have e2 : (hv.size : Int) - 1 - (hv.size : Int) = -1 := by omega
            rw [e2]
            clear hk HK2 HP2 e2
            go_wp2_with fail
            go_roundw
            case rel => exact ⟨i, o2, by omega, by go_num, HO2, HO2l, HD2, H62, HGr2⟩
            case measure => simp [intOf]
end Go.Proofs.Ytmohedkhbjeapaa.Ex
