/-
  What the proofs lean on, part 24 of 25.
-/
import Derived.Test.YtdmdcggmgipdbaaGreatDoorPd
import Derived.Test.YtdmdcggmgipdbaaGreatDoorPh
import Derived.Test.YtdmdcggmgipdbaaGreatDoorPi
import Derived.Test.YtdmdcggmgipdbaaGreatDoorPk
import Derived.Test.YtdmdcggmgipdbaaGreatDoorPu
import Derived.Test.YtdmdcggmgipdbaaGreatDoorPw
import Derived.Laws.IdiomStrings
import Derived.Deep.SlicePairs
import Derived.Lib.SmallJoins
import Derived.Deep.Slices
import Derived.Deep.Fields
import Derived.ChangeSame
import Derived.SizedLaws
import Derived.OpenShut
namespace Go.Proofs.YtdmdcggmgipdbaaGreatDoor.Ld
open Go.RowKit Kit Rw
open Go.Proofs.YtdmdcggmgipdbaaGreatDoor.Nm (nameB)
open Go.Proofs.YtdmdcggmgipdbaaGreatDoor.Sg (Sig Row findI)
open Go.Proofs.YtdmdcggmgipdbaaGreatDoor.Hs (Keys Ints layI BoxT)
open Go.Proofs.YtdmdcggmgipdbaaGreatDoor.Tm (Tm Store BoxF put3L put3I put3E copyOf9_any)
open Go.Proofs.YtdmdcggmgipdbaaGreatDoor.Ex (Ex atS cellsS cellsI own_slice mayN np runS push push_some may_kinds)
theorem name_size9 {t : Tg} (hm : mayN t = true) : t.2.1.size ≤ 20 := by
  have hk := may_kinds hm
  have h0 : ∀ b : Bool, (t.2.1.toList.isEmpty && b) = true → t.2.1.size ≤ 20 := fun b h => by
    rw [Bool.and_eq_true] at h
    have h1 := h.1
    rw [List.isEmpty_iff, ByteArray.toList_eq] at h1
    have h2 : t.2.1.data.toList.length = 0 := by rw [h1]; rfl
    have h3 : t.2.1.size = 0 := by simpa using h2
    omega
  have hN : ∀ lo hi : Int, nameB lo hi t.2.1.data.toList = true → t.2.1.size ≤ 20 := fun lo hi h => by
    by_cases hs : 20 < t.2.1.size
    · rw [Nm.nameB_long lo hi _ hs] at h; cases h
    · omega
  unfold mayN at hm
  by_cases h1 : t.1 = 0 ∨ t.1 = 1
  · rw [if_pos h1] at hm; exact h0 _ hm
  rw [if_neg h1] at hm
  by_cases h2 : t.1 = 2
  · rw [if_pos h2, Bool.and_eq_true] at hm; exact hN _ _ hm.1
  rw [if_neg h2] at hm
  by_cases h3 : t.1 = 3
  · rw [if_pos h3] at hm; simp only [Bool.and_eq_true] at hm; exact hN _ _ hm.1
  rw [if_neg h3] at hm
  by_cases h4 : t.1 = 4 ∨ t.1 = 5
  · rw [if_pos h4] at hm; exact h0 _ hm
  rw [if_neg h4] at hm
  have h6 : t.1 = 6 := by omega
  rw [if_pos h6] at hm; simp only [Bool.and_eq_true] at hm; exact hN _ _ hm.1
theorem ints_same {w U : World} {Bk : Nat} {A : Option Addr} {xs : List Int} (h : Ints w Bk A xs) (hc : ∀ p : Addr, p.block < Bk → U.cell? p = w.cell? p) : Ints U Bk A xs := fun h0 => by
  obtain ⟨ad, e, hb, hx⟩ := h h0
  exact ⟨ad, e, hb, fun i x hi => (hc _ (by rw [Rw.add_block]; exact hb)).trans (hx i x hi)⟩
theorem keys_same {w U : World} {Bk : Nat} {A : Option Addr} {ks : List (List Int)} (h : Keys w Bk A ks) (hc : ∀ p : Addr, p.block < Bk → U.cell? p = w.cell? p) : Keys U Bk A ks := fun h0 => by
  obtain ⟨ad, e, hb, hx⟩ := h h0
  refine ⟨ad, e, hb, fun i k hi => ?_⟩
  obtain ⟨a, c, hle, c0, hI⟩ := hx i k hi
  exact ⟨a, c, hle, (hc _ (by rw [Rw.add_block]; exact hb)).trans c0, ints_same hI hc⟩
/-- where the loop stands: plain -/
structure At (L : List Sig) (limit : Int) (ks : List (List Int)) (names : List ByteArray) (l : List Tg) (x : Ex) (k : Nat) (s : LS) (sk : List Ex) : Prop where
  ok : Ok L ⟨ks, names, []⟩ s sk k
  run : runS sk (l.drop k) = some [x]
  eq : loadF L limit l ⟨ks, names, []⟩ = loadF L limit (l.drop k) s
  few : s.st.length ≤ k
theorem At.next {L : List Sig} {limit : Int} {ks : List (List Int)} {names : List ByteArray} {l : List Tg} {x : Ex} {k : Nat} {s : LS} {sk : List Ex} (h : At L limit ks names l x k s sk) (hk : k < l.length) (hm : mayN l[k] = true) :
    np l[k] ≤ s.st.length ∧ (put3E L s.ks (tmS L s l[k]) limit ≠ 0 → loadF L limit l ⟨ks, names, []⟩ = (put3E L s.ks (tmS L s l[k]) limit, s)) ∧ (put3E L s.ks (tmS L s l[k]) limit = 0 → ∃ sk', At L limit ks names l x (k + 1) (stepS L limit s l[k]) sk') := by
  have hd := List.drop_eq_getElem_cons hk
  have hr := h.run
  rw [hd] at hr
  simp only [runS] at hr
  cases hp : push sk l[k] with
  | none => rw [hp] at hr; cases hr
  | some sn =>
    rw [hp] at hr
    obtain ⟨hle, _⟩ := push_some hp
    have hlen := h.ok.rep.len
    refine ⟨by omega, fun hE => ?_, fun hE => ⟨sn, ?_, hr, ?_, ?_⟩⟩
    · rw [h.eq, hd]
      show (if put3E L s.ks (tmS L s l[k]) limit = 0 then _ else _) = _
      rw [if_neg hE]
    · exact h.ok.trans (load_step h.ok.store h.ok.dst h.ok.nms h.ok.rep hm hp hE)
    · rw [h.eq, hd]
      show (if put3E L s.ks (tmS L s l[k]) limit = 0 then _ else _) = _
      rw [if_pos hE]
    · show (_ :: s.st.drop (np l[k])).length ≤ k + 1
      have := h.few
      simp
      omega
theorem drop_rev {α : Type} (l : List α) (m j : Nat) (h : l.length = m + j) : l.reverse.drop m = (l.take j).reverse := by
  rw [List.drop_reverse]
  congr 2
  omega
theorem take_rev {α : Type} (l : List α) (m j : Nat) (y : α) (h : l.length = m + j) : l.reverse.take m ++ [y] = (y :: l.drop j).reverse := by
  rw [List.take_reverse, List.reverse_cons]
  congr 3
  omega

set_option maxRecDepth 100000 in
set_option maxHeartbeats 8000000 in
theorem load_any (R A S Bn T : Option Addr) (nl cl n c m d nb cb ne ce : Nat) (L : List Sig) (ks : List (List Int)) (names : List ByteArray) (l : List Tg) (x : Ex) (limit : Int) (b9 : Nat) (w : World) (hnl : nl = L.length) (hn : n = ks.length) (hm : m = (layI ks).length) (hnb : nb = names.length) (hne : ne = l.length)
    (hst : Sto w R A S Bn L ks names) (hok : StoOk L ks names b9) (hb : b9 ≤ 1200) (hr : Rds w w.heap.size T (cellsG l)) (hmay : ∀ t ∈ l, mayN t = true) (hrun : runS [] l = some [x]) (hl : l.length ≤ 600) :
    Calls Tryz.prog 20 #[.slice R nl cl, .agg #[.slice A n c, .slice S m d], .slice Bn nb cb, .slice T ne ce, .int .i64 limit] w (LoadPost (loadK L limit ks names l) (loadN L limit ks names l) (loadI L limit ks names l) (loadE L limit ks names l) w) := by
  subst hnl hn hm hnb hne
  have hpos : 0 < l.length := by
    cases l with
    | nil => injection hrun with hrun; cases hrun
    | cons a l => simp
  have hAt : At L limit ks names l x 0 ⟨ks, names, []⟩ [] := ⟨Ok.refl hok.store hok.dst hok.nms RepL.nil, hrun, rfl, Nat.le_refl _⟩
  have hks1 := hok.klen
  have hks2 := hok.flat
  have hnl1 := hok.nlen
  have HAt := Lib.hid hAt
  have HX := Lib.hid (hok.kx (by omega))
  have h64 := hok.l64
  have HM := Lib.hid hmay
  have q2 := ((Q.refl w).alloc (Obj.cells #[Value.slice A ks.length c, Value.slice S (layI ks).length d] 26)).alloc (Obj.cells #[Value.slice none 0 0, Value.slice none 0 0] 26)
  have HSt0 := Lib.hid hst
  have HSt := Lib.hid (hst.q q2)
  have HRl := Lib.hid (hr.q q2)
  have HB0 := Lib.hid ((BoxT.new w (Value.slice A ks.length c) (Value.slice S (layI ks).length d) 26).q ((Q.refl _).alloc (Obj.cells #[Value.slice none 0 0, Value.slice none 0 0] 26)))
  have e1 : (w.alloc (Obj.cells #[Value.slice A ks.length c, Value.slice S (layI ks).length d] 26)).heap.size = w.heap.size + 1 := by simp
  have hBF := BoxF.new (w.alloc (Obj.cells #[Value.slice A ks.length c, Value.slice S (layI ks).length d] 26)) 26
  rw [e1] at hBF
  have HBF := Lib.hid hBF
  have HQ2 := Lib.hid q2
  have CBe := Lib.hid (begin9_any R A S Bn L.length cl c d names.length cb ks names limit _ rfl HSt.out.nms hok.dst (by omega) (fun a ha => by have := hok.n20 a ha; omega))
  have hrl : w.heap.size + 1 < ((w.alloc (Obj.cells #[Value.slice A ks.length c, Value.slice S (layI ks).length d] 26)).alloc (Obj.cells #[Value.slice none 0 0, Value.slice none 0 0] 26)).heap.size := HBF.out.lt
  have HCp : Hid (∀ W, Q ((w.alloc (Obj.cells #[Value.slice A ks.length c, Value.slice S (layI ks).length d] 26)).alloc (Obj.cells #[Value.slice none 0 0, Value.slice none 0 0] 26)) W → Calls Tryz.prog 47 #[.agg #[.slice A ks.length c, .slice S (layI ks).length d]] W (Tm.CopyOfPost ks (layI ks) W)) := fun W q =>
    copyOf9_any A S ks.length c (layI ks).length d ks (layI ks) W rfl rfl (HSt.out.q q).keys (HSt.out.q q).slots (by omega) HX.out (by rw [Hs.layI_length]; have := Hs.sizeN_le ks.length; omega)
  have HCs : Hid (∀ W, Q ((w.alloc (Obj.cells #[Value.slice A ks.length c, Value.slice S (layI ks).length d] 26)).alloc (Obj.cells #[Value.slice none 0 0, Value.slice none 0 0] 26)) W → Calls Tryz.prog 48 #[.slice Bn names.length cb] W (OwnS W.heap.size names W)) := fun W q =>
    clone_str Bn names.length cb names W rfl (HSt.out.q q).nms (by omega)
  have b0 := HB0.out.c0
  have b1 := HB0.out.c1
  clear hst hr hmay hrun hAt q2 e1 hBF hok
  go_enter Tryz.func20, Tryz.ntmps20
  go_wp2_with fail
  generalize hW2 : (w.alloc (Obj.cells #[Value.slice A ks.length c, Value.slice S (layI ks).length d] 26)).alloc (Obj.cells #[Value.slice none 0 0, Value.slice none 0 0] 26) = W2 at *
  refine CBe.out.mono ?_
  rintro e w1 ⟨A4, c4, b, rfl, own1, hM1, hb1, q1⟩
  obtain ⟨r, hrr⟩ : ∃ r, r = w.heap.size + 1 := ⟨_, rfl⟩
  have HR : Hid (r = w.heap.size + 1) := hrr
  have hL0 : LdS W2 (w1.alloc (Obj.cells #[.slice R L.length cl, .slice A ks.length c, .slice S (layI ks).length d, .slice A4 names.length c4, .map (some b), .int .i64 limit, .slice none 0 0] 88)) w1.heap.size b R cl L A S c d ks (.slice A4 names.length c4) names limit (.slice none 0 0) [] 0 w.heap.size := by
    have qa := (Q.refl w1).alloc (Obj.cells #[.slice R L.length cl, .slice A ks.length c, .slice S (layI ks).length d, .slice A4 names.length c4, .map (some b), .int .i64 limit, .slice none 0 0] 88)
    have hbl := hM1.lt
    have hwW := HQ2.out.size
    have hvb : ∀ g, (Value.slice A4 names.length c4).ownBlock = some g → W2.heap.size ≤ g ∧ g < w1.heap.size := own1.lt
    refine ⟨q1.trans qa, q1.size, hb1, by omega, own_new9 w1 _ _, HSt.out.row.q (Nat.le_refl _) (q1.trans qa), ⟨Nat.le_trans hwW (q1.trans qa).size, fun U hU => ?_⟩, hM1.q qa, row_kept own1 qa (Nat.le_refl _), own_nil _ _ _ _, (fun e => by have := hvb _ e; omega), (fun e => by cases e), (fun g _ e => by cases e), .inr (Nat.le_trans hwW q1.size), (fun g e => .inr (Nat.le_trans hwW (hvb g e).1)), (fun g e => by cases e)⟩
    have hc : ∀ p : Addr, p.block < w.heap.size → U.cell? p = w.cell? p := fun p hp => (hU p (Nat.zero_le _) hp).trans ((HQ2.out.trans (q1.trans qa)).cell hp)
    exact ⟨keys_same HSt0.out.keys hc, ints_same HSt0.out.slots hc⟩
  have HL0 := Lib.hid hL0
  clear hL0 own1 hM1 hb1 q1 CBe b0 b1 hrr
  go_wp2_with fail
  generalize w1.alloc (Obj.cells #[.slice R L.length cl, .slice A ks.length c, .slice S (layI ks).length d, .slice A4 names.length c4, .map (some b), .int .i64 limit, .slice none 0 0] 88) = W3 at *
  obtain ⟨B, hB⟩ : ∃ B, B = w1.heap.size := ⟨_, rfl⟩
  rw [← hB] at HL0 ⊢
  clear hB
  rw [← HR.out] at HBF hrl ⊢
  go_loopw [25] (fun iv wr => ∃ (k : Nat) (s : LS) (sk : List Ex) (A9 S9 : Option Addr) (c9 d9 : Nat) (v u : Value) (lo hi : Nat), k ≤ l.length ∧ iv = .int .i64 k ∧ Hid (At L limit ks names l x k s sk) ∧ Hid (LdS W2 wr B b R cl L A9 S9 c9 d9 s.ks v s.own limit u s.st.reverse lo hi) ∧ Hid (Off lo hi r)) (fun iv _ => l.length - (intOf iv).toNat)
  case atStart => exact ⟨0, ⟨ks, names, []⟩, [], A, S, c, d, _, _, 0, w.heap.size, Nat.zero_le _, rfl, HAt, HL0, Lib.hid (.inr (by have := HR.out; omega))⟩
  case round =>
    clear HAt HL0
    obtain ⟨k, s, sk, A9, S9, c9, d9, v, u, lo, hi, hk, rfl, HA, HL, HOff⟩ := hrel
    have hq := HL.out.q
    by_cases hlt : k < l.length
    · obtain ⟨ad, rfl, hadb, c0, c1, c2⟩ := tok_at (HRl.out.q hq) hlt
      have hmk := HM.out l[k] (List.getElem_mem hlt)
      obtain ⟨n1, n2, n3⟩ := HA.out.next hlt hmk
      have hwl : s.st.reverse.length = (s.st.length - np l[k]) + np l[k] := by rw [List.length_reverse]; omega
      have hstl : s.st.length = (s.st.length - np l[k]) + np l[k] := by omega
      have hfew := HA.out.few
      have hok := HA.out.ok
      have hsl := hok.len
      have hsf := hok.flat
      have hso := hok.olen
      simp only at hsl hsf hso
      have CL := Lib.hid (fun (W : World) (q : Q wr W) => lay9_any W2 B b R cl L A9 S9 c9 d9 s.ks v s.own limit u s.st.reverse lo hi W l[k] (s.st.length - np l[k]) (HL.out.more q) hmk (by omega) (by have := name_size9 hmk; omega) (by omega) hwl (by rw [List.length_reverse]; omega) hok.store.dist (fun key hkey => by
        rcases hok.klen key hkey with h1 | h1
        · exact HX.out key h1
        · omega) (by omega) (by omega))
      have etm : tmN L s.own l[k] (s.st.reverse.drop (s.st.length - np l[k])) = tmS L s l[k] := by rw [drop_rev s.st _ (np l[k]) hstl]; rfl
      have ewt := take_rev s.st (s.st.length - np l[k]) (np l[k]) (put3I L s.ks (tmS L s l[k]) limit) hstl
      rw [etm] at CL
      unfold LayPost at CL
      rw [ewt] at CL
      have HN2 := Lib.hid n2
      have HN3 := Lib.hid n3
      have HLy : Hid (∀ W, Q wr W → Calls Tryz.prog 46 #[.pointer (some ⟨B, 0, none⟩), .agg #[.int .i64 l[k].1, .string l[k].2.1, .int .i64 l[k].2.2]] W fun e w' => e = .returned (.int .i64 (put3E L s.ks (tmS L s l[k]) limit)) ∧ Q W2 w' ∧ (put3E L s.ks (tmS L s l[k]) limit = 0 → ∃ A S c d v u lo hi, LdS W2 w' B b R cl L A S c d (stepS L limit s l[k]).ks v (stepS L limit s l[k]).own limit u (stepS L limit s l[k]).st.reverse lo hi ∧ W2.heap.size ≤ lo)) := fun W q => CL.out W q
      clear n1 n2 n3 hwl hstl hfew hok hsl hsf hso CL etm ewt hmk HL
      generalize hE : put3E L s.ks (tmS L s l[k]) limit = E at *
      generalize stepS L limit s l[k] = s2 at *
      generalize l[k] = nd at *
      clear hE
      have qn := (Q.refl wr).alloc (Obj.cells #[.int .i64 nd.1, .string nd.2.1, .int .i64 nd.2.2] 67)
      have HC := Lib.hid (HLy.out _ qn)
      clear qn HLy
      go_wp2_with fail
      refine HC.out.mono ?_
      rintro e w5 ⟨rfl, q5, hL5⟩
      by_cases hE : E = 0
      · obtain ⟨A6, S6, c6, d6, v6, u6, lo6, hi6, h6, hlo6⟩ := hL5 hE
        obtain ⟨sk', hA'⟩ := HN3.out hE
        have HA' := Lib.hid hA'
        have HL6 := Lib.hid h6
        have HO6 : Hid (Off lo6 hi6 r) := Lib.hid (.inl (by omega))
        have e0 : (E != 0) = false := by simp [hE]
        clear hL5 hE hA' h6 hlo6 q5 HC HN2 HN3
        go_wp2_with fail
        go_roundw
        case rel => exact ⟨k + 1, s2, sk', A6, S6, c6, d6, v6, u6, lo6, hi6, by omega, by go_num, HA', HL6, HO6⟩
        case measure => simp [intOf]; omega
      · have hF := HN2.out hE
        have HE : Hid (loadE L limit ks names l = E) := by unfold Hid loadE; rw [hF]
        have hE2 : loadE L limit ks names l ≠ 0 := by rw [HE.out]; exact hE
        have HBad := Lib.hid (load_bad hE2)
        have e0 : (E != 0) = true := by simpa using hE
        have HQ5 := Lib.hid q5
        have hb5 := HB0.out.q q5
        have b0 := hb5.c0
        have b1 := hb5.c1
        clear hF hE2 hE hL5 q5 HC HN2 HN3 hb5
        go_wp2_with fail
        refine (HCp.out _ HQ5.out).mono ?_
        rintro e w6 ⟨A7, c7, S7, d7, rfl, hF7, q7, _⟩
        have HF7 := Lib.hid hF7
        have HQ7 := Lib.hid (HQ5.out.trans q7)
        have HQ67 := Lib.hid q7
        clear hF7 q7
        go_wp2_with fail
        refine (HCs.out _ HQ7.out).mono ?_
        rintro e w7 ⟨v8, rfl, own8, q8⟩
        obtain ⟨A8, c8, hv8, _, hr8⟩ := own_read own8
        subst hv8
        have hlt8 := own8.lt
        have HQ8 := Lib.hid (HQ7.out.trans q8)
        have hbf := HBF.out.q HQ8.out
        have r0 := hbf.c0
        have r1 := hbf.c1
        have z0 := hbf.f0
        have z1 := hbf.f1
        obtain ⟨y0, y1⟩ := hbf.two (.slice A7 ks.length c7) (.slice S7 (layI ks).length d7)
        have hz : ((w7.setCell ⟨r, 0, none⟩ (.slice A7 ks.length c7)).setCell ⟨r, 1, none⟩ (.slice S7 (layI ks).length d7)).heap.size = w7.heap.size := by simp [World.setCell]
        have hKI : Keys ((w7.setCell ⟨r, 0, none⟩ (.slice A7 ks.length c7)).setCell ⟨r, 1, none⟩ (.slice S7 (layI ks).length d7)) w6.heap.size A7 ks ∧ Ints ((w7.setCell ⟨r, 0, none⟩ (.slice A7 ks.length c7)).setCell ⟨r, 1, none⟩ (.slice S7 (layI ks).length d7)) w6.heap.size S7 (layI ks) := HF7.out _ fun p h1 h2 => by
          have hne : r ≠ p.block := by have := HQ5.out.size; omega
          exact (World.cell?_setCell_far _ _ _ _ hne).trans ((World.cell?_setCell_far _ _ _ _ hne).trans (q8.cell h2))
        have hR8 : Rds ((w7.setCell ⟨r, 0, none⟩ (.slice A7 ks.length c7)).setCell ⟨r, 1, none⟩ (.slice S7 (layI ks).length d7)) ((w7.setCell ⟨r, 0, none⟩ (.slice A7 ks.length c7)).setCell ⟨r, 1, none⟩ (.slice S7 (layI ks).length d7)).heap.size A8 (cellsS names) := fun h0 => by
          obtain ⟨ad8, ea, hb8, hc8⟩ := hr8 h0
          have hlo8 := (hlt8 ad8.block (by rw [ea]; rfl)).1
          have hne : r ≠ ad8.block := by have := HQ7.out.size; omega
          exact ⟨ad8, ea, by rw [hz]; exact hb8, fun j y hy => (World.cell?_setCell_far _ _ _ _ (by rw [Rw.add_block]; exact hne)).trans ((World.cell?_setCell_far _ _ _ _ (by rw [Rw.add_block]; exact hne)).trans (hc8 j y hy))⟩
        have hqF : Q w ((w7.setCell ⟨r, 0, none⟩ (.slice A7 ks.length c7)).setCell ⟨r, 1, none⟩ (.slice S7 (layI ks).length d7)) := ((HQ2.out.trans HQ8.out).setCell (p := ⟨r, 0, none⟩) (by have := HR.out; show _ ≤ r; omega) _).setCell (p := ⟨r, 1, none⟩) (by have := HR.out; show _ ≤ r; omega) _
        have h68 := q8.size
        have HP : Hid (LoadPost (loadK L limit ks names l) (loadN L limit ks names l) (loadI L limit ks names l) (loadE L limit ks names l) w (.returned (.tuple #[.agg #[.slice A7 ks.length c7, .slice S7 (layI ks).length d7], .slice A8 names.length c8, .int .i64 0, .int .i64 E])) ((w7.setCell ⟨r, 0, none⟩ (.slice A7 ks.length c7)).setCell ⟨r, 1, none⟩ (.slice S7 (layI ks).length d7))) := by
          obtain ⟨p1, p2, p3⟩ := HBad.out
          unfold Hid LoadPost
          rw [p1, p2, p3, HE.out]
          exact ⟨A7, c7, S7, d7, A8, c8, rfl, hKI.1.more (by rw [hz]; exact h68), hKI.2.more (by rw [hz]; exact h68), hR8, hqF⟩
        clear hKI hR8 hqF h68 hz hlt8 hr8 own8 q8 hbf
        go_wp2_with fail
        generalize (w7.setCell ⟨r, 0, none⟩ (.slice A7 ks.length c7)).setCell ⟨r, 1, none⟩ (.slice S7 (layI ks).length d7) = WF at *
        exact bodyPost_ret (v := .tuple #[.agg #[.slice A7 ks.length c7, .slice S7 (layI ks).length d7], .slice A8 names.length c8, .int .i64 0, .int .i64 E]) (by simp [results, Tryz.f20, go_sem, y0, y1]) rfl HP.out
    · have hkx : k = l.length := by omega
      have hdr : l.drop k = [] := List.drop_of_length_le (by omega)
      have hrun := HA.out.run
      have heq := HA.out.eq
      have hrep := HA.out.ok.rep
      rw [hdr] at hrun heq
      simp only [runS, Option.some.injEq] at hrun
      rw [hrun] at hrep
      obtain ⟨y, r2, hst, _, hr2⟩ := hrep.inv
      have hr0 : r2 = [] := by simpa only [RepL] using hr2
      rw [hr0] at hst
      have hE0 : loadE L limit ks names l = 0 := by unfold loadE; rw [heq]; rfl
      have HE0 := Lib.hid hE0
      have HK0 : Hid (loadK L limit ks names l = s.ks ∧ loadN L limit ks names l = s.own ∧ loadI L limit ks names l = y) := by
        refine Lib.hid ⟨?_, ?_, ?_⟩
        · unfold loadK; rw [if_pos hE0, heq]; rfl
        · unfold loadN; rw [if_pos hE0, heq]; rfl
        · unfold loadI; rw [if_pos hE0, heq]
          show s.st.headD 0 = y
          rw [hst]; rfl
      have hw1 := HL.out.wts
      rw [hst] at hw1
      obtain ⟨g6, c6, hu6⟩ := own_slice hw1 (by simp)
      rw [hu6] at hw1
      have hy0 : wr.cell? ⟨g6, 0, none⟩ = some (.int .i64 y) := by
        rw [hw1.cellAt 0 (by simp)]; rfl
      have hg6 := hw1.lt g6 rfl
      obtain ⟨A8, c8, hv8, _, hr8⟩ := own_read HL.out.nms
      obtain ⟨a0, a1, a2, a3, a4, a5, a6⟩ := HL.out.cells
      have hu6' : u = .slice (some ⟨g6, 0, none⟩) 1 c6 := hu6
      have hbf := HBF.out.q hq
      have hlt8 := HL.out.nms.lt
      rw [hv8] at a3 hlt8
      rw [hu6'] at a6
      have HS4 : Hid (wr.drew.cell? ⟨B, 1, none⟩ = some (.slice A9 s.ks.length c9) ∧ wr.drew.cell? ⟨B, 2, none⟩ = some (.slice S9 (layI s.ks).length d9) ∧ wr.drew.cell? ⟨B, 3, none⟩ = some (.slice A8 s.own.length c8) ∧ wr.drew.cell? ⟨B, 6, none⟩ = some (.slice (some ⟨g6, 0, none⟩) 1 c6) ∧ wr.drew.cell? ⟨g6, 0, none⟩ = some (.int .i64 y)) := Lib.hid ⟨a1, a2, a3, a6, hy0⟩
      have hrB : r ≠ B := by have := HL.out.hB; omega
      have hrg : r ≠ g6 := by omega
      have far : ∀ (p : Addr) (x1 x2 : Value), r ≠ p.block → ((wr.drew.setCell ⟨r, 0, none⟩ x1).setCell ⟨r, 1, none⟩ x2).cell? p = wr.cell? p := fun p x1 x2 h => (World.cell?_setCell_far _ _ _ _ h).trans (World.cell?_setCell_far _ _ _ _ h)
      have HS5 : Hid (((wr.drew.setCell ⟨r, 0, none⟩ (.slice A9 s.ks.length c9)).setCell ⟨r, 1, none⟩ (.slice S9 (layI s.ks).length d9)).cell? ⟨B, 1, none⟩ = some (.slice A9 s.ks.length c9) ∧ ((wr.drew.setCell ⟨r, 0, none⟩ (.slice A9 s.ks.length c9)).setCell ⟨r, 1, none⟩ (.slice S9 (layI s.ks).length d9)).cell? ⟨B, 2, none⟩ = some (.slice S9 (layI s.ks).length d9) ∧ ((wr.drew.setCell ⟨r, 0, none⟩ (.slice A9 s.ks.length c9)).setCell ⟨r, 1, none⟩ (.slice S9 (layI s.ks).length d9)).cell? ⟨B, 3, none⟩ = some (.slice A8 s.own.length c8) ∧ ((wr.drew.setCell ⟨r, 0, none⟩ (.slice A9 s.ks.length c9)).setCell ⟨r, 1, none⟩ (.slice S9 (layI s.ks).length d9)).cell? ⟨B, 6, none⟩ = some (.slice (some ⟨g6, 0, none⟩) 1 c6) ∧ ((wr.drew.setCell ⟨r, 0, none⟩ (.slice A9 s.ks.length c9)).setCell ⟨r, 1, none⟩ (.slice S9 (layI s.ks).length d9)).cell? ⟨g6, 0, none⟩ = some (.int .i64 y)) :=
        Lib.hid ⟨(far _ _ _ hrB).trans a1, (far _ _ _ hrB).trans a2, (far _ _ _ hrB).trans a3, (far _ _ _ hrB).trans a6, (far _ _ _ hrg).trans hy0⟩
      have r0 := hbf.c0
      have r1 := hbf.c1
      have z0 := hbf.f0
      have z1 := hbf.f1
      obtain ⟨y0, y1⟩ := (hbf.q (Q.refl wr).drew).two (.slice A9 s.ks.length c9) (.slice S9 (layI s.ks).length d9)
      have hz : ((wr.drew.setCell ⟨r, 0, none⟩ (.slice A9 s.ks.length c9)).setCell ⟨r, 1, none⟩ (.slice S9 (layI s.ks).length d9)).heap.size = wr.heap.size := by show ((wr.drew.setCell _ _).setCell _ _).heap.size = _; simp [World.setCell]
      have hg2 := grown_trans (setCell_grown wr.drew r 0 (.slice A9 s.ks.length c9)) (setCell_grown _ r 1 (.slice S9 (layI s.ks).length d9))
      have hka := ((HL.out.keys.q (Q.refl wr).drew).grown hg2 (fun g e => by injection e with e; subst e; exact HOff.out)).here
      have hR8 : Rds ((wr.drew.setCell ⟨r, 0, none⟩ (.slice A9 s.ks.length c9)).setCell ⟨r, 1, none⟩ (.slice S9 (layI s.ks).length d9)) ((wr.drew.setCell ⟨r, 0, none⟩ (.slice A9 s.ks.length c9)).setCell ⟨r, 1, none⟩ (.slice S9 (layI s.ks).length d9)).heap.size A8 (cellsS s.own) := fun h0 => by
        obtain ⟨ad8, ea, hb8, hc8⟩ := hr8 h0
        have hlo8 := (hlt8 ad8.block (by rw [ea]; rfl)).1
        exact ⟨ad8, ea, by rw [hz]; exact hb8, fun j z hz' => (far _ _ _ (by rw [Rw.add_block]; omega)).trans (hc8 j z hz')⟩
      have hqF : Q w ((wr.drew.setCell ⟨r, 0, none⟩ (.slice A9 s.ks.length c9)).setCell ⟨r, 1, none⟩ (.slice S9 (layI s.ks).length d9)) := ((HQ2.out.trans hq).drew.setCell (p := ⟨r, 0, none⟩) (by have := HR.out; show _ ≤ r; omega) _).setCell (p := ⟨r, 1, none⟩) (by have := HR.out; show _ ≤ r; omega) _
      have HP : Hid (LoadPost (loadK L limit ks names l) (loadN L limit ks names l) (loadI L limit ks names l) (loadE L limit ks names l) w (.returned (.tuple #[.agg #[.slice A9 s.ks.length c9, .slice S9 (layI s.ks).length d9], .slice A8 s.own.length c8, .int .i64 y, .int .i64 0])) ((wr.drew.setCell ⟨r, 0, none⟩ (.slice A9 s.ks.length c9)).setCell ⟨r, 1, none⟩ (.slice S9 (layI s.ks).length d9))) := by
        obtain ⟨p1, p2, p3⟩ := HK0.out
        unfold Hid LoadPost
        rw [p1, p2, p3, HE0.out]
        exact ⟨A9, c9, S9, d9, A8, c8, rfl, hka.1, hka.2, hR8, hqF⟩
      have hw0 : IntKind.i64.wrap 0 = 0 := rfl
      clear hka hR8 hqF hz hlt8 hr8 hg2 hbf far hw1 hdr hrun heq hrep hr2 hE0 hu6 hu6' hv8 a0 a4 a5 hst
      go_wp2_with fail
      refine wp_region_held_drew (S := fun w' => w'.cell? ⟨B, 1, none⟩ = some (.slice A9 s.ks.length c9) ∧ w'.cell? ⟨B, 2, none⟩ = some (.slice S9 (layI s.ks).length d9) ∧ w'.cell? ⟨B, 3, none⟩ = some (.slice A8 s.own.length c8) ∧ w'.cell? ⟨B, 6, none⟩ = some (.slice (some ⟨g6, 0, none⟩) 1 c6) ∧ w'.cell? ⟨g6, 0, none⟩ = some (.int .i64 y)) (by kernel_rfl) ?_ (fun hHeld => ?_)
      · exact HS4.out
      refine take_w (i := 0) (d := some 47) (v := ?_) rfl (by kernel_rfl) (by kernel_rfl) (by kernel_rfl) (fun _ _ _ h => h) rfl (by rfl) ?_ (by assumption) ?_
      rotate_left
      · (intro w hSw; (try dsimp only at hSw); go_simp; (try with_reducible rfl))
      try simp only [Act.put, List.setIfInBounds_toArray, List.set_cons_zero, List.set_cons_succ]
      refine take_w (i := 1) (d := some 48) (v := ?_) rfl (by kernel_rfl) (by kernel_rfl) (by kernel_rfl) (fun _ _ _ h => h) rfl (by rfl) ?_ (by assumption) ?_
      rotate_left
      · (intro w hSw; (try dsimp only at hSw); go_simp; (try with_reducible rfl))
      try simp only [Act.put, List.setIfInBounds_toArray, List.set_cons_zero, List.set_cons_succ]
      refine take_w (i := 2) (d := some 49) (v := ?_) rfl (by kernel_rfl) (by kernel_rfl) (by kernel_rfl) (fun _ _ _ h => h) rfl (by rfl) ?_ (by assumption) ?_
      rotate_left
      · (intro w hSw; (try dsimp only at hSw); go_simp; (try with_reducible rfl))
      try simp only [Act.put, List.setIfInBounds_toArray, List.set_cons_zero, List.set_cons_succ]
      refine take_w (i := 3) (d := some 50) (v := ?_) rfl (by kernel_rfl) (by kernel_rfl) (by kernel_rfl) (fun _ _ _ h => h) rfl (by rfl) ?_ (by assumption) ?_
      rotate_left
      · (intro w hSw; (try dsimp only at hSw); go_simp; (try with_reducible rfl))
      try simp only [Act.put, List.setIfInBounds_toArray, List.set_cons_zero, List.set_cons_succ]
      refine take_w (i := 4) (d := some 51) (v := ?_) rfl (by kernel_rfl) (by kernel_rfl) (by kernel_rfl) (fun _ _ _ h => h) rfl (by rfl) ?_ (by assumption) ?_
      rotate_left
      · (intro w hSw; (try dsimp only at hSw); go_simp; (try with_reducible rfl))
      try simp only [Act.put, List.setIfInBounds_toArray, List.set_cons_zero, List.set_cons_succ]
      refine take_w (i := 5) (d := some 52) (v := ?_) rfl (by kernel_rfl) (by kernel_rfl) (by kernel_rfl) (fun _ _ _ h => h) rfl (by rfl) ?_ (by assumption) ?_
      rotate_left
      · (intro w hSw; (try dsimp only at hSw); go_simp; (try with_reducible rfl))
      try simp only [Act.put, List.setIfInBounds_toArray, List.set_cons_zero, List.set_cons_succ]
      refine take_w (i := 6) (d := some 53) (v := ?_) rfl (by kernel_rfl) (by kernel_rfl) (by kernel_rfl) (fun _ _ _ h => h) rfl (by rfl) ?_ (by assumption) ?_
      rotate_left
      · (intro w hSw; (try dsimp only at hSw); go_simp; (try with_reducible rfl))
      try simp only [Act.put, List.setIfInBounds_toArray, List.set_cons_zero, List.set_cons_succ]
      refine take_w (i := 7) (d := some 54) (v := ?_) rfl (by kernel_rfl) (by kernel_rfl) (by kernel_rfl) (fun _ _ _ h => h) rfl (by rfl) ?_ (by assumption) ?_
      rotate_left
      · (intro w hSw; (try dsimp only at hSw); go_simp; (try with_reducible rfl))
      try simp only [Act.put, List.setIfInBounds_toArray, List.set_cons_zero, List.set_cons_succ]
      refine take_w (i := 8) (d := some 55) (v := ?_) rfl (by kernel_rfl) (by kernel_rfl) (by kernel_rfl) (fun _ _ _ h => h) rfl (by rfl) ?_ (by assumption) ?_
      rotate_left
      · (intro w hSw; (try dsimp only at hSw); go_simp; (try with_reducible rfl))
      try simp only [Act.put, List.setIfInBounds_toArray, List.set_cons_zero, List.set_cons_succ]
      refine take_w (i := 9) (d := some 56) (v := ?_) rfl (by kernel_rfl) (by kernel_rfl) (by kernel_rfl) (fun _ _ _ h => h) rfl (by rfl) ?_ (by assumption) ?_
      rotate_left
      · (intro w hSw; (try dsimp only at hSw); go_simp; (try with_reducible rfl))
      try simp only [Act.put, List.setIfInBounds_toArray, List.set_cons_zero, List.set_cons_succ]
      refine take_w (i := 10) (d := some 57) (v := ?_) rfl (by kernel_rfl) (by kernel_rfl) (by kernel_rfl) (fun _ _ _ h => h) rfl (by rfl) ?_ (by assumption) ?_
      rotate_left
      · (intro w hSw; (try dsimp only at hSw); go_simp; (try with_reducible rfl))
      try simp only [Act.put, List.setIfInBounds_toArray, List.set_cons_zero, List.set_cons_succ]
      refine take_w (i := 11) (d := some 58) (v := ?_) rfl (by kernel_rfl) (by kernel_rfl) (by kernel_rfl) (fun _ _ _ h => h) rfl (by rfl) ?_ (by assumption) ?_
      rotate_left
      · (intro w hSw; (try dsimp only at hSw); go_simp; (try with_reducible rfl))
      try simp only [Act.put, List.setIfInBounds_toArray, List.set_cons_zero, List.set_cons_succ]
      refine call_w (i := 12) rfl (by kernel_rfl) (by rfl) (fun K hK => ?_)
      go_simp
      refine hK.out _ _ ?_ (fun hHeld => ?_)
      · exact HS5.out
      clear hK K
      try simp only [Act.put, List.setIfInBounds_toArray, List.set_cons_zero, List.set_cons_succ]
      refine call_w (i := 13) rfl (by kernel_rfl) (by rfl) (fun K hK => ?_)
      go_simp
      refine hK.out _ _ ?_ (fun hHeld => ?_)
      · exact HS5.out
      clear hK K
      try simp only [Act.put, List.setIfInBounds_toArray, List.set_cons_zero, List.set_cons_succ]
      refine call_w (i := 14) rfl (by kernel_rfl) (by rfl) (fun K hK => ?_)
      go_simp
      refine hK.out _ _ ?_ (fun hHeld => ?_)
      · exact HS5.out
      clear hK K
      try simp only [Act.put, List.setIfInBounds_toArray, List.set_cons_zero, List.set_cons_succ]
      refine call_w (i := 15) rfl (by kernel_rfl) (by rfl) (fun K hK => ?_)
      go_simp
      refine hK.out _ _ ?_ (fun hHeld => ?_)
      · exact HS5.out
      clear hK K
      try simp only [Act.put, List.setIfInBounds_toArray, List.set_cons_zero, List.set_cons_succ]
      refine wpAnyH_done (by kernel_rfl) ?_ _
      go_wp2_with fail
      have eW : (wr.drew.setCell ⟨r, 0, none⟩ (.slice A9 s.ks.length c9)).setCell ⟨r, 1, none⟩ (.slice S9 (layI s.ks).length d9) = ((wr.setCell ⟨r, 0, none⟩ (.slice A9 s.ks.length c9)).setCell ⟨r, 1, none⟩ (.slice S9 (layI s.ks).length d9)).drew := rfl
      rw [eW] at y0 y1 HP
      generalize ((wr.setCell ⟨r, 0, none⟩ (.slice A9 s.ks.length c9)).setCell ⟨r, 1, none⟩ (.slice S9 (layI s.ks).length d9)).drew = WF at y0 y1 HP ⊢
      exact bodyPost_ret (v := .tuple #[.agg #[.slice A9 s.ks.length c9, .slice S9 (layI s.ks).length d9], .slice A8 s.own.length c8, .int .i64 y, .int .i64 0]) (by simp [results, Tryz.f20, go_sem, y0, y1]) rfl HP.out
end Go.Proofs.YtdmdcggmgipdbaaGreatDoor.Ld

namespace Go.Proofs.YtdmdcggmgipdbaaGreatDoor.Ld
end Go.Proofs.YtdmdcggmgipdbaaGreatDoor.Ld

namespace Go.Proofs.YtdmdcggmgipdbaaGreatDoor.Ld
open Go.RowKit Kit Rw
open Go.Proofs.YtdmdcggmgipdbaaGreatDoor.Sg (Sig Row findI)
open Go.Proofs.YtdmdcggmgipdbaaGreatDoor.Hs (Keys Ints BoxT layI)
open Go.Proofs.YtdmdcggmgipdbaaGreatDoor.Tm (Store NewPost first3 keyOk)
open Go.Proofs.YtdmdcggmgipdbaaGreatDoor.Ex (cellsS own_new8)
theorem store_first (L : List Sig) : Store L first3 := by
  refine ⟨fun i j x hi hj => ?_, by decide, fun i key h => ?_⟩
  · match i, j, hi, hj with
    | 0, 0, _, _ => rfl
    | 1, 1, _, _ => rfl
    | 0, 1, hi, hj =>
      have e1 : [0, 0, 0] = x := by simpa [first3] using hi
      have e2 : [1, 0, 0] = x := by simpa [first3] using hj
      rw [← e1] at e2; simp at e2
    | 1, 0, hi, hj =>
      have e1 : [1, 0, 0] = x := by simpa [first3] using hi
      have e2 : [0, 0, 0] = x := by simpa [first3] using hj
      rw [← e1] at e2; simp at e2
    | i + 2, _, hi, _ => simp [first3] at hi
    | _, j + 2, _, hj => simp [first3] at hj
  · match i, h with
    | 0, h =>
      obtain rfl : [0, 0, 0] = key := by simpa [first3] using h
      rfl
    | 1, h =>
      obtain rfl : [1, 0, 0] = key := by simpa [first3] using h
      rfl
    | i + 2, h => simp [first3] at h
theorem stoOk_first {L : List Sig} (h64 : L.length ≤ 64) (hR : Sg.rightB L = true) {names : List ByteArray} (hn : namedB names = true) (hl : names.length ≤ 100) : StoOk L first3 names 0 := by
  obtain ⟨n1, n2⟩ := (named_iff names).1 hn
  exact ⟨h64, hR, store_first L, n2, n1, by decide, by decide, by omega⟩
theorem ex9_sig : Sg.rightB ex9L = true := by
  have h : Sg.rightG ex9L ex9L 0 = ((Sg.conB ⟨#[99]⟩ && Sg.partsB ⟨#[43]⟩ && (findI ⟨#[99]⟩ ex9L 0 == ((0 : Nat) : Int))) && true) := rfl
  unfold Sg.rightB
  rw [h, ex9_find]
  rfl
set_option maxRecDepth 100000 in
set_option maxHeartbeats 4000000 in
theorem shown9_any (w : World) : Calls Tryz.prog 9 #[] w fun e w' => e = .returned (.bool true) ∧ Q w w' := by
  have q0 := (Q.refl w).alloc (Obj.cells #[.string ⟨#[99]⟩, .string ⟨#[43]⟩] 65)
  have HR0 : Hid (Row (w.alloc (Obj.cells #[.string ⟨#[99]⟩, .string ⟨#[43]⟩] 65)) (w.alloc (Obj.cells #[.string ⟨#[99]⟩, .string ⟨#[43]⟩] 65)).heap.size (some ⟨w.heap.size, 0, none⟩) ex9L) := fun _ => by
    have hO := own_new8 w [.string ⟨#[99]⟩, .string ⟨#[43]⟩] 65
    refine ⟨_, rfl, hO.1, fun i s hs => ?_⟩
    match i, hs with
    | 0, hs =>
      obtain rfl : ((⟨#[99]⟩, ⟨#[43]⟩) : Sig) = s := by simpa [ex9L] using hs
      exact ⟨(hO.2 0 _ rfl).1, (hO.2 1 _ rfl).1⟩
    | i + 1, hs => simp [ex9L] at hs
  have hok := stoOk_first (L := ex9L) (by decide) ex9_sig (names := []) rfl (by simp)
  go_enter Tryz.func9, Tryz.ntmps9
  go_wp2_with fail
  generalize w.alloc (Obj.cells #[.string ⟨#[99]⟩, .string ⟨#[43]⟩] 65) = W0 at *
  refine (refNew_any _).mono ?_
  rintro e w1 ⟨A, c, S, d, rfl, hk, hs, q1⟩
  have hn0 := own_new8 w1 [.int .i64 2, .string ⟨#[88]⟩, .int .i64 0, .int .i64 3, .string ⟨#[99]⟩, .int .i64 1] 67
  have q2 := (Q.refl w1).alloc (Obj.cells #[.int .i64 2, .string ⟨#[88]⟩, .int .i64 0, .int .i64 3, .string ⟨#[99]⟩, .int .i64 1] 67)
  have HN : Hid (Rds (w1.alloc (Obj.cells #[.int .i64 2, .string ⟨#[88]⟩, .int .i64 0, .int .i64 3, .string ⟨#[99]⟩, .int .i64 1] 67)) (w1.alloc (Obj.cells #[.int .i64 2, .string ⟨#[88]⟩, .int .i64 0, .int .i64 3, .string ⟨#[99]⟩, .int .i64 1] 67)).heap.size (some ⟨w1.heap.size, 0, none⟩) (cellsG ex9N)) := hn0.rds
  have hst : Sto w1 (some ⟨w.heap.size, 0, none⟩) A S none ex9L first3 [] := ⟨(HR0.out.q (Nat.le_refl _) q1).more q1.size, hk, hs, Rds.nil _ _ _⟩
  have CL := Lib.hid (load_any (some ⟨w.heap.size, 0, none⟩) A S none (some ⟨w1.heap.size, 0, none⟩) 1 1 2 c 8 d 0 0 2 2 ex9L first3 [] ex9N ex9E 9 0 _ rfl rfl (by rw [Hs.layI_length]; show 8 = Hs.sizeN 2; rw [Tm.size2]) rfl rfl (hst.q q2) hok (by omega) HN.out ex9_may ex9_run (by decide))
  rw [show first3 = [[0, 0, 0], [1, 0, 0]] from rfl, ex9_K, ex9_N, ex9_I, ex9_E] at CL
  have Q2 := Lib.hid ((q0.trans q1).trans q2)
  have HR2 := Lib.hid (hst.q q2).row
  have hld : Loaded ex9L first3 [] 9 ex9N ex9E := loaded (store_first _) hok.dst hok.nms ex9_may ex9_run ex9_E
  have hok2 : StoOk ex9L ex9K [⟨#[88]⟩] 2 := by
    have := hld.sto hok
    rw [show first3 = [[0, 0, 0], [1, 0, 0]] from rfl, ex9_K, ex9_N] at this
    exact this
  have hnb : namedB [⟨#[88]⟩] = true := hok2.named
  have HO2 := Lib.hid hok2
  have HNB := Lib.hid hnb
  clear q2 hn0 hk hs hst q1 HN HR0 hok hld hok2 hnb q0
  go_wp2_with fail
  refine CL.out.mono ?_
  rintro e w3 ⟨A3, c3, S3, d3, B3, b3, rfl, hk3, hs3, hN3, q3⟩
  have hst3 : Sto w3 (some ⟨w.heap.size, 0, none⟩) A3 S3 B3 ex9L ex9K [⟨#[88]⟩] := ⟨(HR2.out.q (Nat.le_refl _) q3).more q3.size, hk3, hs3, hN3⟩
  obtain ⟨ad, rfl, had, hc0⟩ := hN3 (by decide)
  have hc : w3.cell? ad = some (.string ⟨#[88]⟩) := by
    have := hc0 0 _ rfl
    rwa [show ad.add 0 = ad by simp [Addr.add]] at this
  have CT := Lib.hid (fun (W : World) (q : Q w3 W) => ltext_any (some ⟨w.heap.size, 0, none⟩) A3 S3 (some ad) 1 1 4 c3 (layI ex9K).length d3 1 b3 ex9L ex9K [⟨#[88]⟩] 3 2 W rfl rfl rfl rfl (hst3.q q) HO2.out (by omega))
  rw [ex9_T, show bs [99, 40, 88, 41] = ⟨#[99, 40, 88, 41]⟩ from rfl] at CT
  have CN := Lib.hid (fun (W : World) (q : Q w3 W) => named9_any (some ad) 1 b3 [⟨#[88]⟩] W rfl (hst3.nms.q q) (by decide) (by decide))
  rw [HNB.out] at CN
  have Q3 := Lib.hid (Q2.out.trans q3)
  rw [show ex9K.length = 4 from rfl, show ([⟨#[88]⟩] : List ByteArray).length = 1 from rfl]
  clear hk3 hs3 hN3 q3 hst3 hc0 CL HR2
  go_wp2_with fail
  refine (CT.out _ ((Q.refl w3).alloc _)).mono ?_
  rintro e w4 ⟨rfl, q4⟩
  have q34 := ((Q.refl w3).alloc (Obj.cells #[Value.slice A3 4 c3, Value.slice S3 (layI ex9K).length d3] 26)).trans q4
  have Q4 := Lib.hid q34
  clear q34 q4 hc
  go_wp2_with fail
  refine (CN.out _ Q4.out).mono ?_
  rintro e w5 ⟨rfl, q5⟩
  go_wp2_with fail
  go_ret
  exact ⟨rfl, Q3.out.trans (Q4.out.trans q5)⟩
end Go.Proofs.YtdmdcggmgipdbaaGreatDoor.Ld

namespace Go.Proofs.YtdmdcggmgipdbaaGreatDoor.Ex
open Go.RowKit Kit Rw Go.Proofs.YtdmdcggmgipdbaaGreatDoor.Nm

set_option maxRecDepth 100000 in
set_option maxHeartbeats 1000000 in
theorem same7_any (A A' : Option Addr) (n c n' c' : Nat) (l m : List Tg) (w : World) (hn : n = l.length) (hn' : n' = m.length) (hr : Rds w w.heap.size A (cellsG l)) (hr' : Rds w w.heap.size A' (cellsG m)) (hl : l.length ≤ 1000000) :
    Calls Tryz.prog 15 #[.slice A n c, .slice A' n' c'] w fun e w' => e = .returned (.bool (sameB l m)) ∧ ∃ n, w' = w.drewN n := by
  subst hn hn'
  by_cases hne : l.length = m.length
  · have HN := Lib.hid hne
    have hne' : ((l.length : Int) != (m.length : Int)) = false := by simp; omega
    have HR : Hid (sameB l m = sameG l m) := by unfold Hid sameB; rw [decide_eq_true hne]; rfl
    clear hne
    go_enter Tryz.func15, Tryz.ntmps15
    go_wp2_with fail
    go_loopw [5] (fun i wr => ∃ k : Nat, k ≤ l.length ∧ i = .int .i64 k ∧ Hid (sameG l m = sameG (l.drop k) (m.drop k)) ∧ ∃ n, wr = w.drewN n) (fun i _ => l.length - (intOf i).toNat)
    case atStart => exact ⟨0, Nat.zero_le _, rfl, Lib.hid (by simp), 0, rfl⟩
    case round =>
      obtain ⟨k, hk, rfl, HF, nd, rfl⟩ := hrel
      by_cases hlt : k < l.length
      · have hlt' : k < m.length := by have := HN.out; omega
        obtain ⟨ad, rfl, hb, c0, c1, c2⟩ := tok_at hr hlt
        obtain ⟨bd, rfl, hb', c0', c1', c2'⟩ := tok_at hr' hlt'
        have HS := Lib.hid (sameG_at l m k hlt hlt')
        clear hr hr'
        have hq := fun u : World => run_neq_node u l[k] m[k]
        have hq2 := node_guard
        cases hE : tgEq l[k] m[k]
        · have HS' : Hid (sameG (l.drop k) (m.drop k) = false) := by unfold Hid; rw [HS.out, hE]; rfl
          rw [hE] at hq
          go_wp2_with fail
          go_quiet (fail)
          go_wp2_with fail
          go_ret
          exact ⟨by rw [HR.out, HF.out, HS'.out]; rfl, _, World.drewN_drewN _ _ _⟩
        · have HS' : Hid (sameG (l.drop k) (m.drop k) = sameG (l.drop (k + 1)) (m.drop (k + 1))) := by unfold Hid; rw [HS.out, hE]; rfl
          rw [hE] at hq
          go_wp2_with fail
          go_quiet (fail)
          go_wp2_with fail
          go_roundw
          case rel => exact ⟨k + 1, by omega, by go_num, Lib.hid (HF.out.trans HS'.out), _, rfl⟩
          case measure => simp [intOf]; omega
      · have HS := Lib.hid (sameG_end l m k (by omega))
        go_wp2_with fail
        go_ret
        exact ⟨by rw [HR.out, HF.out, HS.out]; rfl, nd, rfl⟩
  · have hne' : ((l.length : Int) != (m.length : Int)) = true := by simp; omega
    have HR : Hid (sameB l m = false) := by unfold Hid sameB; rw [decide_eq_false hne]; rfl
    clear hne
    go_enter Tryz.func15, Tryz.ntmps15
    go_wp2_with fail
    go_ret
    exact ⟨by rw [HR.out]; rfl, 0, rfl⟩
end Go.Proofs.YtdmdcggmgipdbaaGreatDoor.Ex

namespace Go.Proofs.YtdmdcggmgipdbaaGreatDoor.Sg
open Go.ChangeShapes Go.WideShapes Go.RowKit Kit Go.Deep Go.Joins

section
variable {H : Type} {enc : TypeId × Value → H} {W : World} {base : Nat}
set_option maxRecDepth 100000 in
theorem open_sigs {v : Value} {d : DataW H} {p : List MemPlace} (hv : Value.okWide Tryz.prog W .any base 22 v) (h : DataW.Trod enc Tryz.prog W 0 (fun _ => true) true 22 v d p) :
    ∃ A n c l, v = .slice A n c ∧ n = l.length ∧ Row W W.heap.size A l ∧ l.length ≤ maxLen ∧ Sized l ∧ n ≤ c := by
  obtain ⟨a, len, cap, rfl⟩ := okWide_slice Tryz.underlying22 hv
  obtain ⟨fuel, hf⟩ := h
  rcases open_slice_pairs Tryz.underlying22 Tryz.underlying65 (by kernel_rfl) rfl rfl (by kernel_rfl) (by kernel_rfl) hf with ⟨h0, _⟩ | ⟨ad, len', cap', m, n, V0, V1, D0, D1, P0, P1, hcs, _, hl, hm, hmm, _, hi⟩
  · simp only [Value.cells, List.cons.injEq, Value.slice.injEq, and_true] at h0
    obtain ⟨rfl, rfl, rfl⟩ := h0
    exact ⟨_, _, _, [], rfl, rfl, fun h => absurd h (by simp), by simp, (fun s hs => by cases hs), Nat.le_refl _⟩
  · simp only [Value.cells, List.cons.injEq, Value.slice.injEq, and_true] at hcs
    obtain ⟨rfl, rfl, rfl⟩ := hcs
    have hlm : len ≤ m := by rw [hmm]; split <;> omega
    have each : ∀ i, i < len → ∃ s : Sig, W.cell? (ad.add (i * 2)) = some (.string s.1) ∧ W.cell? (ad.add (i * 2 + 1)) = some (.string s.2) ∧ s.1.size ≤ maxLen ∧ s.2.size ≤ maxLen := fun i hil => by
      obtain ⟨c0, c1, t0, t1⟩ := hi i (by omega)
      obtain ⟨s0, e0, _, z0⟩ := DataW.trod_string Tryz.underlying9 t0
      obtain ⟨s1, e1, _, z1⟩ := DataW.trod_string Tryz.underlying9 t1
      simp only [List.cons.injEq, and_true] at e0 e1
      exact ⟨(s0, s1), by rw [c0, e0], by rw [c1, e1], z0, z1⟩
    obtain ⟨q, hq⟩ := choose_lt each
    refine ⟨_, _, _, (List.range len).map q, rfl, by simp, fun h0 => ⟨ad, rfl, ?_, fun i s hs => ?_⟩, by simp; omega, fun s hs => ?_, hl⟩
    · have := (hq 0 (by simpa using h0)).1
      have := World.block_lt_of_cell? W _ this
      rwa [add_block] at this
    · have hil : i < len := by
        have := (List.getElem?_eq_some_iff.1 hs).1
        simpa using this
      have e : s = q i := by
        rw [List.getElem?_map, List.getElem?_range hil] at hs
        simpa using hs.symm
      subst e
      obtain ⟨c0, c1, _, _⟩ := hq i hil
      rw [add_succ] at c1
      exact ⟨c0, c1⟩
    · simp only [List.mem_map, List.mem_range] at hs
      obtain ⟨i, hil, rfl⟩ := hs
      exact (hq i hil).2.2
end
end Go.Proofs.YtdmdcggmgipdbaaGreatDoor.Sg

namespace Go.Proofs.YtdmdcggmgipdbaaGreatDoor.Rw
open Go.ChangeShapes Go.WideShapes Go.RowKit Kit Go.Deep Go.Joins

theorem weights_all {H : Type} {P : Program} {e : TypeId} : ∀ {ds : List (DataW H)} {d : DataW H}, d ∈ ds → ∀ n ∈ d.weights P e, n ∈ DataW.weightsAll P e ds
  | x :: l, d, h, n, hn => by
    simp only [DataW.weightsAll, List.mem_append]
    rcases List.mem_cons.1 h with rfl | h
    · exact .inl hn
    · exact .inr (weights_all h n hn)
section
variable {H : Type} {enc : TypeId × Value → H} {P : Program} {w : World} {base : Nat} {spare : Nat → Bool} {held : Bool}
set_option maxRecDepth 100000 in
theorem open_fields3 {t e : TypeId} {fs : Array Field} {fuel : Nat} {cs : List Value} {x : DataW H × List MemPlace} (ht : P.underlying t = some (.slice e)) (he : P.underlying e = some (.struct fs))
    (hone : oneCellFields P fs = true) (hC : P.cellsOf e = fs.size) (h : DataW.trod enc P w base spare held fuel t cs = some x) :
    (cs = [.slice none 0 0] ∧ x = (.nil, [])) ∨
    ∃ (a : Addr) (len cap m : Nat) (D : Nat → DataW H) (Pl : Nat → List MemPlace), cs = [.slice (some a) len cap] ∧ base ≤ a.block ∧ len ≤ cap ∧ cap ≤ maxLen ∧ m = (if spare a.block then cap else len) ∧
      x = (.slice ((List.range len).map D) ((List.range (m - len)).map fun j => D (len + j)), MemPlace.row a (m * fs.size) ++ (List.range m).flatMap Pl) ∧
      ∀ i, i < m → ∃ (ys : List (DataW H × List MemPlace)) (n : Nat), D i = .agg (ys.map (·.1)) ∧ Pl i = ys.flatMap (·.2) ∧ ys.length = fs.size ∧
        ∀ (j : Nat) (f : Field), fs[j]? = some f → ∃ (v : Value) (y : DataW H × List MemPlace), w.cell? (a.add (i * fs.size + j)) = some v ∧ ys[j]? = some y ∧ DataW.trod enc P w base spare held n f.type [v] = some y := by
  rcases open_slice ht h with h0 | ⟨a, len, cap, m, n, D, Pl, hcs, hb, hl, hm, hmm, hx, hi⟩
  · exact .inl h0
  · refine .inr ⟨a, len, cap, m, D, Pl, hcs, hb, hl, hm, hmm, by rw [hC] at hx; exact hx, fun i him => ?_⟩
    obtain ⟨cs', hc, ht'⟩ := hi i him
    rw [hC] at hc
    obtain ⟨ys, n', hn', hy, hlen, hyl, hf⟩ := DataW.trod_struct he ht'
    obtain ⟨_, hcl, hat⟩ := World.cells?_some hc
    simp only [Prod.mk.injEq] at hy
    refine ⟨ys, n', hy.1, hy.2, hyl, fun j f hj => ?_⟩
    obtain ⟨ho, hk⟩ := hone_of hone j f hj
    have hjl : j < fs.size := (Array.getElem?_eq_some_iff.1 hj).1
    have hcell := hat j hjl
    have hv : cs'[j]? = some (cs'[j]'(by omega)) := List.getElem?_eq_getElem (by omega)
    have h1 := hf j f hj
    rw [ho, hk] at h1
    have hone' : (cs'.drop j).take 1 = [cs'[j]'(by omega)] := by
      rw [List.drop_eq_getElem_cons (by omega)]
      rfl
    rw [hone'] at h1
    have hys : ys[j]? = some (ys[j]'(by omega)) := List.getElem?_eq_getElem (by omega)
    refine ⟨_, _, ?_, hys, h1.trans hys⟩
    rw [← Go.Deep.add_add, hcell, hv]
end
end Go.Proofs.YtdmdcggmgipdbaaGreatDoor.Rw
