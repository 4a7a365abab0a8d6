/-
  What the proofs lean on, part 19 of 25.
-/
import Derived.Test.YtdmdcggmgipdbaaGreatDoorPr
import Derived.Lib.AppendZeros
import Derived.Lib.SliceRun
import Derived.RegionTactic
import Derived.Deep.RegionHeld3
import Derived.Maps.Own
import Derived.Maps.OwnOps
import Derived.Maps.OwnSet
import Derived.Lib.AppendStr
import Derived.Laws.IdiomStrings
namespace Go.Proofs.YtdmdcggmgipdbaaGreatDoor.Ex
open Go.RowKit Kit Rw
open Go.Proofs.YtdmdcggmgipdbaaGreatDoor.Nm

def NodePost (l : List Tg) (a : Nat) (h : a < l.length) (sk : List Ex) (w : World) (e : Ending) (w' : World) : Prop :=
  ∃ K, Ends l a (sk.take (np l[a])).reverse K ∧ NearK a K ∧ PcsPost (pcs l l[a] a K) w e w'
theorem near_nil (a : Nat) : NearK a [] := fun i h => absurd h (by simp)
theorem node_leaf {l : List Tg} {a : Nat} {h : a < l.length} {sk : List Ex} {w w' : World} {e : Ending} {ps : List Pc} (hm : mayN l[a] = true) (hk : l[a].1 = 0 ∨ l[a].1 = 1 ∨ l[a].1 = 2) (hp : pcs l l[a] a [] = ps) (hw : PcsPost ps w e w') : NodePost l a h sk w e w' := by
  have h0 : np l[a] = 0 := by
    unfold np partsN
    unfold mayN at hm
    rw [if_neg (by omega)]
    by_cases h1 : l[a].1 = 0 ∨ l[a].1 = 1
    · rw [if_pos h1] at hm
      simp only [Bool.and_eq_true, beq_iff_eq] at hm
      omega
    · rw [if_neg h1, if_pos (by omega)] at hm
      simp only [Bool.and_eq_true, beq_iff_eq] at hm
      omega
  subst hp
  refine ⟨[], ?_, near_nil a, hw⟩
  rw [h0]
  exact Ends.nil l a
theorem node_proj {l : List Tg} {a : Nat} {h : a < l.length} {sk : List Ex} {w w' : World} {e : Ending} (hs : runS [] (l.take a) = some sk) (hnp : np l[a] ≤ sk.length) (h1 : np l[a] = 1) (ha : 0 < a) (hw : ∀ K, PcsPost (pcs l l[a] a K) w e w') : NodePost l a h sk w e w' := by
  obtain ⟨c, r, rfl⟩ : ∃ c r, sk = c :: r := by
    cases sk with
    | nil => simp at hnp; omega
    | cons c r => exact ⟨c, r, rfl⟩
  refine ⟨[a - 1], ⟨by rw [h1]; rfl, fun i hi hi' => ?_⟩, fun i hi => ?_, hw _⟩
  · have : i = 0 := by simp at hi; omega
    subst this
    refine ⟨by simp; omega, ?_⟩
    have e : (List.take (np l[a]) (c :: r)).reverse = [c] := by rw [h1]; rfl
    simp only [e, List.getElem_cons_zero]
    unfold treeAt
    rw [show a - 1 + 1 = a by omega, hs]
    rfl
  · have : i = 0 := by simp at hi; omega
    subst this
    simp
    omega
theorem itoa_one (m : Nat) (h1 : 1 ≤ m) (h8 : m ≤ 8) : (⟨(Lib.decDigits m).toArray⟩ : ByteArray) = ⟨#[figD m]⟩ := by
  rw [Lib.decDigits_one (by omega)]; rfl

set_option maxRecDepth 100000 in
set_option maxHeartbeats 2000000 in
theorem proj_pcs (A S : Option Addr) (n c m d : Nat) (l : List Tg) (a f : Nat) (w : World) (hn : n = l.length) (hr : Rds w w.heap.size A (cellsG l)) (ha : a < l.length) (ha0 : 0 < a) (hf : l[a].2.2 = (f : Int)) (h1 : 1 ≤ f) (h8 : f ≤ 8) (hl : l.length ≤ 1000000) :
    Calls Tryz.prog 96 #[.agg #[.slice A n c, .slice S m d], .int .i64 (a : Int)] w (PcsPost [sayP l[a].2.1, sayP ⟨#[126]⟩, sayP ⟨#[figD f]⟩, sayP ⟨#[40]⟩, atP (a - 1), sayP ⟨#[41]⟩] w) := by
  subst hn
  obtain ⟨a', rfl⟩ : ∃ a', a = a' + 1 := ⟨a - 1, by omega⟩
  rw [Nat.add_sub_cancel]
  have hq := (Q.refl w).alloc (Obj.cells #[Value.slice A l.length c, Value.slice S m d] 112)
  have hbx := own_new w [Value.slice A l.length c, Value.slice S m d] 112
  have b0 := (hbx.2 0 _ rfl).1
  obtain ⟨ad, rfl, hb, c0, c1, c2⟩ := tok_at (hr.q hq) ha
  rw [hf] at c2
  have HQ := Lib.hid hq
  have e1 : ((a' + 1 : Nat) : Int) - 1 = (a' : Int) := by omega
  have HI : Hid (∀ W : World, Calls Tryz.prog 106 #[.int .i64 (f : Int)] W fun e w' => e = .returned (.string ⟨#[figD f]⟩) ∧ w' = W) := fun W => by
    have := Tryz.strconv_Itoa_small f (by omega) W
    rwa [itoa_one f h1 h8] at this
  clear hbx hr hq hf
  go_enter Tryz.func96, Tryz.ntmps96
  go_wp2_with (first
    | (go_at_call 106; refine (HI.out _).mono ?_; rintro e w1 ⟨rfl, rfl⟩)
    | (go_at_call 104; refine (say_any _ _).mono ?_; rintro e w2 ⟨rfl, q2⟩; replace HQ := Lib.hid (HQ.out.trans q2); clear q2)
    | (go_at_call 76; refine (textOf_any _ _).mono ?_; rintro e w2 ⟨rfl, q2⟩; replace HQ := Lib.hid (HQ.out.trans q2); clear q2))
  go_ret
  exact pcs_lit [sayP l[a' + 1].2.1, sayP ⟨#[126]⟩, sayP ⟨#[figD f]⟩, sayP ⟨#[40]⟩, atP a', sayP ⟨#[41]⟩] _ HQ.out rfl _ rfl (by simp)

theorem conP_take (K : List Nat) (k : Nat) (h : k < K.length) : sayP (if k = 0 then ⟨#[40]⟩ else ⟨#[44]⟩) = sayP (if true = true ∧ K.take k = [] then ⟨#[40]⟩ else ⟨#[44]⟩) := by
  have : K.take k = [] ↔ k = 0 := by
    rw [List.take_eq_nil_iff]
    constructor
    · rintro (h | h)
      · exact h
      · subst h; simp at *
    · exact .inl
  simp [this]
def sepC (k : Nat) : ByteArray := if k = 0 then ⟨#[40]⟩ else ⟨#[44]⟩
theorem conP_next (s : Pc) (K : List Nat) (k : Nat) (h : k < K.length) : s :: conP true (K.take (k + 1)) = (s :: conP true (K.take k)) ++ [sayP (sepC k), atP K[k]] := by
  rw [List.take_succ_eq_append_getElem h, conP_app, List.cons_append]
  unfold sepC
  rw [conP_take K k h]
set_option maxRecDepth 100000 in
set_option maxHeartbeats 4000000 in
theorem con_pcs (A S : Option Addr) (n c m d : Nat) (l : List Tg) (st : List Ex) (a : Nat) (sk : List Ex) (w : World) (hn : n = l.length) (hm : m = l.length) (hr : Rds w w.heap.size A (cellsG l)) (hS : Rds w w.heap.size S (cellsI (startsL l l.length)))
    (hl : l.length ≤ 1000) (hmay : ∀ t ∈ l, mayN t = true) (hs : runS [] l = some st) (ha : a < l.length) (hsk : runS [] (l.take a) = some sk) (h3 : l[a].1 = 3) :
    Calls Tryz.prog 93 #[.agg #[.slice A n c, .slice S m d], .int .i64 (a : Int)] w (NodePost l a ha sk w) := by
  subst hn hm
  obtain ⟨i0, hi, hz0, hz1, hz2⟩ := info_parts pieceInfo
  have Hi := Lib.hid hi
  have Hz0 := Lib.hid hz0
  have Hz1 := Lib.hid hz1
  have Hz2 := Lib.hid hz2
  clear hi hz0 hz1 hz2
  have hq := (Q.refl w).alloc (Obj.cells #[Value.slice A l.length c, Value.slice S l.length d] 112)
  have HBX := Lib.hid (own_new w [Value.slice A l.length c, Value.slice S l.length d] 112)
  have b0 := (HBX.out.2 0 _ rfl).1
  have b1 := (HBX.out.2 1 _ rfl).1
  have HQ := Lib.hid hq
  have HC : Hid (∀ W : World, Q w W → Calls Tryz.prog 92 #[.agg #[.slice A l.length c, .slice S l.length d], .int .i64 (a : Int)] W (PcsPost [sayP l[a].2.1] W)) := fun W q => pname_any A S l.length c l.length d l a W rfl (hr.q q) ha
  have HP : Hid (∀ W : World, Q w W → Calls Tryz.prog 72 #[.agg #[.slice A l.length c, .slice S l.length d], .int .i64 (a : Int)] W fun e w' => ∃ B K, e = .returned (.slice (some ⟨B, 0, none⟩) (np l[a]) (np l[a])) ∧ W.heap.size ≤ B ∧ OwnC w' B (cellsN K) ∧ Ends l a (sk.take (np l[a])).reverse K ∧ NearK a K ∧ Q W w') :=
    fun W q => parts7_any A S l.length c l.length d l st a sk W rfl rfl (hr.q q) (hS.q q) hl hmay hs ha hsk
  have hp8 := (parts_nat (hmay l[a] (List.getElem_mem ha))).2
  obtain ⟨sn, hsn⟩ := run_take hs (a + 1)
  obtain ⟨hnp, _⟩ := run_next ha hsk hsn
  clear hr hS hmay hs hsk hsn hq
  generalize hnm : l[a].2.1 = nmb at *
  go_enter Tryz.func93, Tryz.ntmps93
  go_wp2_with (first
    | (go_at_call 92; refine (HC.out _ HQ.out).mono ?_; rintro e w1 ⟨g, cap, rfl, own, q1⟩; have HO := Lib.hid own; have HQ1 := Lib.hid (HQ.out.trans q1); have b0' := (HBX.out.q q1).2 0 _ rfl |>.1; have b1' := (HBX.out.q q1).2 1 _ rfl |>.1; clear own)
    | (go_at_call 72; refine (HP.out _ HQ1.out).mono ?_; rintro e w2 ⟨B, K, rfl, hB, hOK, hE, hN, q2⟩; have HOK := Lib.hid hOK; have HE := Lib.hid hE; have HN := Lib.hid hN; have HO2 := Lib.hid (row_kept HO.out q2 (Nat.le_refl _)); have HQ2 := Lib.hid (HQ1.out.trans q2); clear q2 hOK hE hN))
  have hlen : K.length = np l[a] := by rw [HE.out.len, List.length_reverse, List.length_take]; omega
  have hK8 : K.length ≤ 8 := by omega
  rw [← hlen]
  have HO0 := HO
  have hvB0 : Hid ((Value.slice (some ⟨g, 0, none⟩) 1 cap).ownBlock ≠ some B) := Lib.hid fun (e : some g = some B) => by
    have h2 : g < w1.heap.size := (HO0.out.lt g rfl).2
    injection e with e
    omega
  clear HO HQ1 b0 b1 b0' b1' HBX HC HP hnp
  have HPc : Hid (pcs l l[a] a K = sayP nmb :: (conP true K ++ (if K = [] then [] else [sayP ⟨#[41]⟩]))) := by
    unfold Hid pcs
    rw [h3, hnm]
    simp only [show ¬ ((3 : Int) = 0) by omega, show ¬ ((3 : Int) = 1) by omega, if_false, if_true]
  clear hlen hnm h3
  go_loopw [5, 6, 16] (fun v b i wr => ∃ k : Nat, k ≤ K.length ∧ i = .int .i64 k ∧ b = .string (sepC k) ∧ Hid (wr.ownsRow w.heap.size 121 2 v (1 + 2 * k) (cellsPc (sayP nmb :: conP true (K.take k)))) ∧ Hid (Q w wr) ∧ Hid (OwnC wr B (cellsN K)) ∧ Hid (v.ownBlock ≠ some B)) (fun _ _ i _ => K.length - (intOf i).toNat)
  case atStart => exact ⟨0, Nat.zero_le _, rfl, rfl, row_kept HO2.out (Q.refl _) HQ.out.size, HQ2.out, HOK, hvB0⟩
  case round =>
    clear HO2 HOK HQ2
    obtain ⟨k, hk, rfl, rfl, HO, HR, HOK, HvB⟩ := hrel
    obtain ⟨g', cap', rfl⟩ := own_slice HO.out (by omega)
    by_cases hlt : k < K.length
    · have hc := HOK.out.2 k _ (cellsN_at hlt)
      obtain ⟨hc, _⟩ := hc
      have HN2 := Lib.hid (conP_next (sayP nmb) K k hlt)
      generalize K[k] = x at *
      go_wp2_with (first
        | (go_at_call 104; refine (say_any _ _).mono ?_; rintro e w3 ⟨rfl, q3⟩; have HR3 := Lib.hid q3; clear q3)
        | (go_at_call 76; refine (textOf_any _ _).mono ?_; rintro e w4 ⟨rfl, q4⟩; have HR4 := Lib.hid (HR3.out.trans q4); clear q4
           have qW := HR4.out.alloc (Obj.cells #[.string (sepC k), .int .i64 (-1), .string ⟨#[]⟩, .int .i64 (x : Int)] 121)
           have HO4 := Lib.hid (row_kept HO.out qW (Nat.le_refl _))
           have HS4 : Hid (Src (w4.alloc (Obj.cells #[.string (sepC k), .int .i64 (-1), .string ⟨#[]⟩, .int .i64 (x : Int)] 121)) (some ⟨w4.heap.size, 0, none⟩) [.string (sepC k), .int .i64 (-1), .string ⟨#[]⟩, .int .i64 (x : Int)]) := src_alloc w4 [.string (sepC k), .int .i64 (-1), .string ⟨#[]⟩, .int .i64 (x : Int)] 121 (0, 0)
           have HQW := Lib.hid (HR.out.trans qW)
           have HOW := Lib.hid (HOK.out.q qW)
           clear qW)
        | (at_builtin; refine wpList_append_src _ rfl (.tmp 20) (.tmp 25) _ rfl w.heap.size 121 i0 _ 2 24 Tryz.underlying123 Hi.out Hz0.out Hz1.out Hz2.out rfl (by omega) _ (1 + 2 * k) _ rfl HO4.out (some ⟨w4.heap.size, 0, none⟩) 2 2 [.string (sepC k), .int .i64 (-1), .string ⟨#[]⟩, .int .i64 (x : Int)] rfl rfl HS4.out (by simp [Value.oneCell']) (by unfold maxLen; omega) (by omega) HQW.out.size ?_; intro v' w' own' gr' bl'))
      have HO5 : Hid (w'.ownsRow w.heap.size 121 2 v' (1 + 2 * (k + 1)) (cellsPc (sayP nmb :: conP true (K.take (k + 1))))) := by
        unfold Hid
        rw [HN2.out, cellsPc_app, show 1 + 2 * (k + 1) = 1 + 2 * k + 2 by omega]
        exact own'
      have HQ5 : Hid (Q w w') := grown_q gr' HQW.out (HO4.out.lt g' rfl).1
      have HOK5 : Hid (OwnC w' B (cellsN K)) := HOW.out.grown gr' HvB.out
      have HvB5 : Hid (v'.ownBlock ≠ some B) := by
        unfold Hid
        rcases bl' with e | e
        · rw [e]; exact HvB.out
        · rw [e]; intro e'; injection e' with e'; have := HOW.out.1; simp at e' this; omega
      go_wp2_with fail
      go_roundw
      case rel => exact ⟨k + 1, by omega, by go_num, rfl, HO5, HQ5, HOK5, HvB5⟩
      case measure => simp [intOf]; omega
    · obtain rfl : k = K.length := by omega
      rw [List.take_length] at HO
      by_cases hKn : K = []
      · subst hKn
        have d0 : decide (1 < ((1 + 2 * ([] : List Nat).length : Nat) : Int)) = false := rfl
        rw [if_pos rfl] at HPc
        simp only [List.length_nil] at HO
        go_wp2_with fail
        go_ret
        refine ⟨[], HE.out, HN.out, ?_⟩
        rw [HPc.out]
        exact ⟨_, _, rfl, HO.out, HR.out⟩
      · have hpos : 0 < K.length := List.length_pos_iff.2 hKn
        rw [if_neg hKn] at HPc
        have d0 : decide (1 < ((1 + 2 * K.length : Nat) : Int)) = true := decide_eq_true (by omega)
        have d1 : decide (1 < 1 + 2 * K.length) = true := decide_eq_true (by omega)
        clear hKn
        go_wp2_with (first
          | (go_at_call 104; refine (say_any _ _).mono ?_; rintro e w3 ⟨rfl, q3⟩
             have qW := q3.alloc (Obj.cells #[.string ⟨#[41]⟩, .int .i64 (-1)] 121)
             have HO4 := Lib.hid (row_kept HO.out qW (Nat.le_refl _))
             have HS4 : Hid (Src (w3.alloc (Obj.cells #[.string ⟨#[41]⟩, .int .i64 (-1)] 121)) (some ⟨w3.heap.size, 0, none⟩) [.string ⟨#[41]⟩, .int .i64 (-1)]) := src_alloc w3 [.string ⟨#[41]⟩, .int .i64 (-1)] 121 (0, 0)
             have HQW := Lib.hid (HR.out.trans qW)
             clear qW q3)
          | (at_builtin; refine wpList_append_src _ rfl (.tmp 31) (.tmp 33) _ rfl w.heap.size 121 i0 _ 2 24 Tryz.underlying123 Hi.out Hz0.out Hz1.out Hz2.out rfl (by omega) _ (1 + 2 * K.length) _ rfl HO4.out (some ⟨w3.heap.size, 0, none⟩) 1 1 [.string ⟨#[41]⟩, .int .i64 (-1)] rfl rfl HS4.out (by simp [Value.oneCell']) (by unfold maxLen; omega) (by omega) HQW.out.size ?_; intro v' w' own' gr' bl'))
        obtain ⟨g5, cap5, rfl⟩ := own_slice own' (by omega)
        have HQ5 : Hid (Q w w') := grown_q gr' HQW.out (HO4.out.lt g' rfl).1
        go_ret
        refine ⟨K, HE.out, HN.out, ?_⟩
        rw [HPc.out]
        have e1 : (sayP nmb :: (conP true K ++ [sayP ⟨#[41]⟩])).length = 1 + 2 * K.length + 1 := by simp [conP_len]; omega
        refine ⟨g5, cap5, by rw [e1]; rfl, ?_, HQ5.out⟩
        rw [e1, ← List.cons_append, cellsPc_app]
        exact own'
end Go.Proofs.YtdmdcggmgipdbaaGreatDoor.Ex

namespace Go.Proofs.YtdmdcggmgipdbaaGreatDoor.Ex
open Go.RowKit Kit Rw
open Go.Proofs.YtdmdcggmgipdbaaGreatDoor.Nm

/-- a row with its first k and its last k turned round -/
def rvP (l : List Pc) (k : Nat) : List Pc := (List.range l.length).map fun p => if p < k ∨ l.length - k ≤ p then l[l.length - 1 - p]?.getD (sayP ⟨#[]⟩) else l[p]?.getD (sayP ⟨#[]⟩)
theorem rvP_length (l : List Pc) (k : Nat) : (rvP l k).length = l.length := by simp [rvP]
theorem rvP_at (l : List Pc) (k p : Nat) (h : p < l.length) : (rvP l k)[p]? = some (if p < k ∨ l.length - k ≤ p then l[l.length - 1 - p]?.getD (sayP ⟨#[]⟩) else l[p]?.getD (sayP ⟨#[]⟩)) := by simp [rvP, h]
theorem rvP_zero (l : List Pc) : rvP l 0 = l := by
  apply List.ext_getElem?
  intro p
  by_cases h : p < l.length
  · rw [rvP_at l 0 p h, if_neg (by omega), List.getElem?_eq_getElem h]; rfl
  · rw [List.getElem?_eq_none (by rw [rvP_length]; omega), List.getElem?_eq_none (by omega)]
theorem rvP_end (l : List Pc) (k : Nat) (h : l.length ≤ 2 * k + 1) : rvP l k = l.reverse := by
  apply List.ext_getElem?
  intro p
  by_cases hp : p < l.length
  · rw [rvP_at l k p hp, List.getElem?_reverse hp]
    have hq : l.length - 1 - p < l.length := by omega
    split
    · rw [List.getElem?_eq_getElem hq]; rfl
    · have : p = l.length - 1 - p := by omega
      rw [← this, List.getElem?_eq_getElem hp]; rfl
  · rw [List.getElem?_eq_none (by rw [rvP_length]; omega), List.getElem?_eq_none (by rw [List.length_reverse]; omega)]
theorem rvP_step (l : List Pc) (k : Nat) (h : 2 * k + 1 < l.length) : ((rvP l k).set k (l[l.length - 1 - k]?.getD (sayP ⟨#[]⟩))).set (l.length - 1 - k) (l[k]?.getD (sayP ⟨#[]⟩)) = rvP l (k + 1) := by
  apply List.ext_getElem?
  intro p
  by_cases hp : p < l.length
  · rw [rvP_at l (k + 1) p hp]
    by_cases e1 : l.length - 1 - k = p
    · rw [e1, List.getElem?_set_self (by rw [List.length_set, rvP_length]; exact hp), if_pos (by omega), show l.length - 1 - p = k by omega]
    · rw [List.getElem?_set_ne e1]
      by_cases e2 : k = p
      · rw [e2, List.getElem?_set_self (by rw [rvP_length]; exact hp), if_pos (by omega)]
      · rw [List.getElem?_set_ne e2, rvP_at l k p hp]
        by_cases e3 : p < k ∨ l.length - k ≤ p
        · rw [if_pos e3, if_pos (by omega)]
        · rw [if_neg e3, if_neg (by omega)]
  · rw [List.getElem?_eq_none (by simp [rvP_length]; omega), List.getElem?_eq_none (by rw [rvP_length]; omega)]
theorem cellsPc_set (l : List Pc) (k : Nat) (p : Pc) : cellsPc (l.set k p) = ((cellsPc l).set (k * 2) (.string p.1)).set (k * 2 + 1) (.int .i64 p.2) := by
  induction l generalizing k with
  | nil => rfl
  | cons q l ih =>
    cases k with
    | zero => rfl
    | succ k =>
      rw [List.set_cons_succ, show (k + 1) * 2 = k * 2 + 1 + 1 by omega]
      simp only [cellsPc, List.set_cons_succ, ih]
/-- a store of a whole piece into a row -/
theorem own_setPc {w : World} {g : Nat} {l : List Pc} (h : OwnC w g (cellsPc l)) {k : Nat} (hk : k < l.length) (p : Pc) : OwnC ((w.setCell ⟨g, k * 2, none⟩ (.string p.1)).setCell ⟨g, k * 2 + 1, none⟩ (.int .i64 p.2)) g (cellsPc (l.set k p)) := by
  rw [cellsPc_set]
  exact (h.set (by rw [cellsPc_len]; omega) _).set (by rw [List.length_set, cellsPc_len]; omega) _
theorem pcs_at {l : List Pc} {k : Nat} {p : Pc} (h : l[k]? = some p) : (cellsPc l)[k * 2]? = some (.string p.1) ∧ (cellsPc l)[k * 2 + 1]? = some (.int .i64 p.2) := by
  obtain ⟨hk, rfl⟩ := List.getElem?_eq_some_iff.1 h
  exact cellsPc_at l k hk

set_option maxRecDepth 100000 in
set_option maxHeartbeats 4000000 in
theorem reverse_pcs (g n c : Nat) (l : List Pc) (w : World) (hn : n = l.length) (hO : OwnC w g (cellsPc l)) (hl : l.length ≤ 100000) :
    Calls Tryz.prog 77 #[.slice (some ⟨g, 0, none⟩) n c] w fun e w' => (∃ v, e = .returned v) ∧ OwnC w' g (cellsPc l.reverse) ∧ w.grownBy w' (some g) := by
  subst hn
  have HO := Lib.hid hO
  clear hO
  have h0 : (0 : Int) ≤ (l.length : Int) := by omega
  go_enter Tryz.func77, Tryz.ntmps77
  go_wp2_with fail
  go_loopw [2, 3] (fun i j wr => ∃ k : Nat, 2 * k ≤ l.length ∧ i = .int .i64 k ∧ j = .int .i64 ((l.length : Int) - 1 - (k : Int)) ∧ Hid (OwnC wr g (cellsPc (rvP l k))) ∧ Hid (w.grownBy wr (some g))) (fun i _ _ => l.length - (intOf i).toNat)
  case atStart => exact ⟨0, by omega, rfl, by simp, by rw [rvP_zero]; exact HO, World.grownBy.refl w _⟩
  case round =>
    clear HO
    obtain ⟨k, hk, rfl, rfl, HR, HE⟩ := hrel
    by_cases hlt : 2 * k + 1 < l.length
    · obtain ⟨j, hj⟩ : ∃ j : Nat, (l.length : Int) - 1 - (k : Int) = (j : Int) := ⟨l.length - 1 - k, by omega⟩
      have hjn : j = l.length - 1 - k := by omega
      have c1 := rvP_at l k k (by omega)
      have c2 := rvP_at l k j (by omega)
      rw [if_neg (by omega)] at c1 c2
      have Hst : Hid (((rvP l k).set k (l[j]?.getD (sayP ⟨#[]⟩))).set j (l[k]?.getD (sayP ⟨#[]⟩)) = rvP l (k + 1)) := by unfold Hid; rw [hjn]; exact rvP_step l k hlt
      obtain ⟨⟨x1, x2⟩, hx⟩ : ∃ x, l[k]?.getD (sayP ⟨#[]⟩) = x := ⟨_, rfl⟩
      obtain ⟨⟨y1, y2⟩, hy⟩ : ∃ y, l[j]?.getD (sayP ⟨#[]⟩) = y := ⟨_, rfl⟩
      rw [hx] at c1 Hst
      rw [hy] at c2 Hst
      obtain ⟨p1, p2⟩ := pcs_at c1
      obtain ⟨p3, p4⟩ := pcs_at c2
      obtain ⟨a1, f1⟩ := HR.out.2 _ _ p1
      obtain ⟨a2, f2⟩ := HR.out.2 _ _ p2
      obtain ⟨a3, f3⟩ := HR.out.2 _ _ p3
      obtain ⟨a4, f4⟩ := HR.out.2 _ _ p4
      have hkj : k < j := by omega
      have hjl : j < l.length := by omega
      rw [hj]
      have Hj := Lib.hid hj
      have HA := own_setPc HR.out (k := k) (by rw [rvP_length]; omega) (y1, y2)
      have HB := own_setPc HA (k := j) (by rw [List.length_set, rvP_length]; omega) (x1, x2)
      rw [Hst.out] at HB
      have HBh := Lib.hid HB
      have HG : Hid (w.grownBy ((((wr.setCell ⟨g, k * 2, none⟩ (.string y1)).setCell ⟨g, k * 2 + 1, none⟩ (.int .i64 y2)).setCell ⟨g, j * 2, none⟩ (.string x1)).setCell ⟨g, j * 2 + 1, none⟩ (.int .i64 x2)) (some g)) :=
        grown_trans (grown_trans (grown_trans (grown_trans HE.out (setCell_grown _ _ _ _)) (setCell_grown _ _ _ _)) (setCell_grown _ _ _ _)) (setCell_grown _ _ _ _)
      have kj : (k : Int) < (j : Int) := by omega
      have kl : (k : Int) < (l.length : Int) := by omega
      have jl : (j : Int) < (l.length : Int) := by omega
      clear hx hy hj hjn HA HB c1 c2 p1 p2 p3 p4
      go_wp2_with fail
      go_region
      all_goals go_wp2_with fail
      go_roundw
      case rel => exact ⟨k + 1, by omega, by go_num, by have := Hj.out; congr 1; omega, HBh.out.q ((Q.refl _).drew), grown_trans HG.out (grows_q ((Q.refl _).drew) _)⟩
      case measure => simp [intOf]; omega
    · have HEn := Lib.hid (rvP_end l k (by omega))
      go_wp2_with fail
      go_end0
      exact ⟨⟨_, rfl⟩, by rw [← HEn.out]; exact HR.out, HE.out⟩

def SrcB (w : World) (B : Nat) (A : Option Addr) (cs : List Value) : Prop := 0 < cs.length → ∃ ad, A = some ad ∧ ad.block < B ∧ ∀ j v, cs[j]? = some v → w.cell? (ad.add j) = some v
/-- a row of rows of pieces -/
def RwP (w : World) (A : Option Addr) (rs : List (List Pc)) : Prop :=
  0 < rs.length → ∃ ad, A = some ad ∧ ad.block < w.heap.size ∧ ∀ i r, rs[i]? = some r → ∃ a c, w.cell? (ad.add i) = some (.slice a r.length c) ∧ Rds w w.heap.size a (cellsPc r)
theorem RwP.q {w w' : World} {A : Option Addr} {l : List (List Pc)} (h : RwP w A l) (q : Q w w') : RwP w' A l := fun h0 => by
  obtain ⟨ad, e, hlt, hc⟩ := h h0
  refine ⟨ad, e, Nat.lt_of_lt_of_le hlt q.size, fun i s hs => ?_⟩
  obtain ⟨a, c, c0, hi⟩ := hc i s hs
  exact ⟨a, c, (q.cell (by rw [add_block]; exact hlt)).trans c0, hi.q q⟩
theorem RwP.at_ {w : World} {A : Option Addr} {l : List (List Pc)} (h : RwP w A l) {k : Nat} (hk : k < l.length) :
    ∃ ad, A = some ad ∧ ad.block < w.heap.size ∧ ∃ a c, w.cell? (ad.add k) = some (.slice a l[k].length c) ∧ Rds w w.heap.size a (cellsPc l[k]) := by
  obtain ⟨ad, e, hlt, hc⟩ := h (by omega)
  exact ⟨ad, e, hlt, hc k l[k] (List.getElem?_eq_getElem hk)⟩
def upToP (rs : List (List Pc)) (k : Nat) : List Pc := (rs.take k).flatten
theorem upToP_succ (rs : List (List Pc)) (k : Nat) (h : k < rs.length) : upToP rs (k + 1) = upToP rs k ++ rs[k] := by
  unfold upToP
  rw [List.take_succ_eq_append_getElem h, List.flatten_append]
  simp
theorem upToP_all (rs : List (List Pc)) (k : Nat) (h : rs.length ≤ k) : upToP rs k = rs.flatten := by unfold upToP; rw [List.take_of_length_le h]
theorem upToP_le (rs : List (List Pc)) (k : Nat) : (upToP rs k).length ≤ rs.flatten.length := by
  have e : rs.flatten = upToP rs k ++ (rs.drop k).flatten := by unfold upToP; rw [← List.flatten_append, List.take_append_drop]
  rw [e, List.length_append]; omega
def OwnPost (base : Nat) (n : Nat) (cs : List Value) (w : World) (e : Ending) (w' : World) : Prop := ∃ v, e = .returned v ∧ w'.ownsRow base 121 2 v n cs ∧ Q w w'

set_option maxHeartbeats 1000000 in
theorem grow_pcs (n : Nat) (w : World) (hn : n ≤ 100000) : Calls Tryz.prog 125 #[.slice none 0 0, .int .i64 (n : Int)] w (OwnPost w.heap.size 0 [] w) := by
  obtain ⟨i0, hi, hz0, hz1, hz2⟩ := info_parts pieceInfo
  by_cases h0 : n = 0
  · subst h0
    clear hi hz0 hz1 hz2
    go_enter Tryz.func125, Tryz.ntmps125
    go_wp2_with fail
    go_ret
    exact ⟨_, rfl, World.ownsRow_nil _ _ _ _, Q.refl _⟩
  · have hrz := fun ty => Lib.run_append_nil_zeros (P := Tryz.prog) w 123 3 ty 121 i0 _ .i64 .i64 Tryz.underlying123 Tryz.underlying3 hi hz0 n (by omega) (by omega) (by omega) (by rw [hz2]; omega)
    have hge := grownCap_ge w n 0 121
    have hle := grownCap_le_maxLen w n 0 121 (by unfold maxLen; omega)
    obtain ⟨cap, hcap⟩ : ∃ cap, cap = grownCap w n 0 121 := ⟨_, rfl⟩
    rw [← hcap] at hrz hge hle
    have HL := Lib.hid hle
    have h1 : 0 < n := by omega
    obtain ⟨O, hO⟩ : ∃ O, O = Builtin.zeroCells (Value.agg #[.string ⟨#[]⟩, .int .i64 0]).cells n ++ Builtin.zeroCells (Value.agg #[.string ⟨#[]⟩, .int .i64 0]).cells (cap - n) := ⟨_, rfl⟩
    have hsz : O.size = cap * 2 := by rw [hO]; simp [Builtin.zeroCells, Value.cells]; omega
    rw [← hO] at hrz
    have Hsz := Lib.hid hsz
    clear hi hz0 hz1 hz2 hcap hO hsz h0 hle
    have Hrz := Lib.hid hrz
    clear hrz
    unfold maxLen at HL
    have hle := HL.out
    go_enter Tryz.func125, Tryz.ntmps125
    go_wp2_with (at_builtin; refine Lib.wpList_append_run _ rfl _ _ _ _ rfl _ _ rfl rfl _ _ (Hrz.out _) ?_)
    go_ret
    exact ⟨_, rfl, ⟨rfl, .inr ⟨w.heap.size, cap, O, rfl, Nat.le_refl _, heap_alloc_new w.drew _, by omega, by unfold maxLen; exact HL.out, by rw [Hsz.out], by simp⟩⟩, ((Q.refl w).drew).alloc _⟩

set_option maxRecDepth 100000 in
set_option maxHeartbeats 2000000 in
theorem concat_pcs (A : Option Addr) (n c : Nat) (rs : List (List Pc)) (w : World) (hn : n = rs.length) (hr : RwP w A rs) (hl : rs.length ≤ 10000) (ht : rs.flatten.length ≤ 100000) :
    Calls Tryz.prog 115 #[.slice A n c] w (OwnPost w.heap.size rs.flatten.length (cellsPc rs.flatten) w) := by
  subst hn
  obtain ⟨i0, hi, hz0, hz1, hz2⟩ := info_parts pieceInfo
  have Hi := Lib.hid hi
  have Hz0 := Lib.hid hz0
  have Hz1 := Lib.hid hz1
  have Hz2 := Lib.hid hz2
  clear hi hz0 hz1 hz2
  go_enter Tryz.func115, Tryz.ntmps115
  go_wp2_with fail
  go_loopw [3, 11] (fun s i wr => ∃ k m : Nat, k ≤ rs.length ∧ i = .int .i64 k ∧ s = .int .i64 m ∧ m ≤ 100000 ∧ Hid (m = (upToP rs k).length) ∧ w = wr) (fun _ i _ => rs.length - (intOf i).toNat)
  case atStart => exact ⟨0, 0, Nat.zero_le _, rfl, rfl, by omega, Lib.hid rfl, rfl⟩
  case round =>
    obtain ⟨k, m, hk, rfl, rfl, hm, HM, rfl⟩ := hrel
    by_cases hlt : k < rs.length
    · obtain ⟨ad, rfl, hb, a, c1, c0, hs⟩ := hr.at_ hlt
      have HU := Lib.hid (upToP_succ rs k hlt)
      have hle := upToP_le rs (k + 1)
      have hb2 : m + rs[k].length ≤ 100000 := by rw [HU.out, List.length_append] at hle; have := HM.out; omega
      clear hr hs hle
      go_wp2_with fail
      go_roundw
      case rel => exact ⟨k + 1, m + rs[k].length, by omega, by go_num, by go_num, hb2, Lib.hid (by rw [HU.out, List.length_append, HM.out]), trivial⟩
      case measure => simp [intOf]; omega
    · go_wp2_with fail
      refine (grow_pcs _ _ hm).mono ?_
      rintro e w1 ⟨v, rfl, own, q1⟩
      have Hown := Lib.hid own
      clear own
      go_wp2_with fail
      go_loopw [6, 27] (fun v i wr => ∃ k : Nat, k ≤ rs.length ∧ i = .int .i64 k ∧ Hid (wr.ownsRow w.heap.size 121 2 v (upToP rs k).length (cellsPc (upToP rs k))) ∧ Q w wr) (fun _ i _ => rs.length - (intOf i).toNat)
      case atStart => exact ⟨0, Nat.zero_le _, rfl, Hown, q1⟩
      case round =>
        obtain ⟨k', hk', rfl, HO, qr⟩ := hrel
        by_cases hlt' : k' < rs.length
        · obtain ⟨ad, rfl, hb, a, c1, c0, hs⟩ := (hr.q qr).at_ hlt'
          have Hs := Lib.hid hs
          have HU := Lib.hid (upToP_succ rs k' hlt')
          have hle := upToP_le rs (k' + 1)
          have Hb2 : Hid ((upToP rs k').length + rs[k'].length ≤ 100000) := by rw [HU.out, List.length_append] at hle; exact Lib.hid (by omega)
          have H1 := Lib.hid (cellsPc_one rs[k'])
          have hb' := Hb2.out
          clear hs hle
          go_wp2_with (at_builtin; refine wpList_append_src _ rfl (.tmp 31) (.tmp 32) _ rfl w.heap.size 121 i0 _ 2 24 Tryz.underlying123 Hi.out Hz0.out Hz1.out Hz2.out rfl (by omega) _ (upToP rs k').length (cellsPc (upToP rs k')) rfl HO.out a rs[k'].length c1 (cellsPc rs[k']) rfl (cellsPc_len _) Hs.out.src H1.out (by unfold maxLen; omega) (by omega) qr.size ?_; intro v' w' own' gr' _)
          have q2 : Q w w' := qr.grown gr' qr.size (fun b hb => (HO.out.lt b hb).1)
          have Ho := Lib.hid own'
          clear own' gr'
          go_wp2_with fail
          go_roundw
          case rel => exact ⟨k' + 1, by omega, by go_num, by rw [HU.out, List.length_append, cellsPc_app]; exact Ho, q2⟩
          case measure => simp [intOf]; omega
        · have HU := Lib.hid (upToP_all rs k' (by omega))
          go_wp2_with fail
          go_ret
          exact ⟨_, rfl, by rw [← HU.out]; exact HO.out, qr⟩
end Go.Proofs.YtdmdcggmgipdbaaGreatDoor.Ex

namespace Go.Proofs.YtdmdcggmgipdbaaGreatDoor.Ex
open Go.RowKit Kit Rw
open Go.Proofs.YtdmdcggmgipdbaaGreatDoor.Nm

theorem rw3 {W : World} {g0 g1 g2 c0 c1 c2 : Nat} {p0 p1 p2 : List Pc} {n0 n1 n2 : Nat} (t : TypeId) (h0 : Rds W W.heap.size (some ⟨g0, 0, none⟩) (cellsPc p0)) (h1 : Rds W W.heap.size (some ⟨g1, 0, none⟩) (cellsPc p1)) (h2 : Rds W W.heap.size (some ⟨g2, 0, none⟩) (cellsPc p2)) (e0 : n0 = p0.length) (e1 : n1 = p1.length) (e2 : n2 = p2.length) {gx : Nat} (hx : gx = W.heap.size) :
    RwP (W.alloc (.cells #[.slice (some ⟨g0, 0, none⟩) n0 c0, .slice (some ⟨g1, 0, none⟩) n1 c1, .slice (some ⟨g2, 0, none⟩) n2 c2] t)) (some ⟨gx, 0, none⟩) [p0, p1, p2] := by
  subst e0 e1 e2 hx
  have q := (Q.refl W).alloc (Obj.cells #[.slice (some ⟨g0, 0, none⟩) p0.length c0, .slice (some ⟨g1, 0, none⟩) p1.length c1, .slice (some ⟨g2, 0, none⟩) p2.length c2] t)
  have hO := own_new W [.slice (some ⟨g0, 0, none⟩) p0.length c0, .slice (some ⟨g1, 0, none⟩) p1.length c1, .slice (some ⟨g2, 0, none⟩) p2.length c2] t
  intro _
  refine ⟨_, rfl, by simp, fun i r hr => ?_⟩
  match i, hr with
  | 0, hr => obtain rfl : p0 = r := by simpa using hr
             exact ⟨_, _, by rw [add_zero_head]; exact (hO.2 0 _ rfl).1, h0.q q⟩
  | 1, hr => obtain rfl : p1 = r := by simpa using hr
             exact ⟨_, _, by rw [add_zero_head]; exact (hO.2 1 _ rfl).1, h1.q q⟩
  | 2, hr => obtain rfl : p2 = r := by simpa using hr
             exact ⟨_, _, by rw [add_zero_head]; exact (hO.2 2 _ rfl).1, h2.q q⟩
  | i + 3, hr => simp at hr
theorem pcs_rds {w' W : World} {ps : List Pc} {g n cap base : Nat} (h : w'.ownsRow base 121 2 (.slice (some ⟨g, 0, none⟩) n cap) n (cellsPc ps)) (q : Q w' W) : Rds W W.heap.size (some ⟨g, 0, none⟩) (cellsPc ps) := ((OwnC.of_row h).q q).rds
theorem lit_rds {w W : World} (ps : List Pc) (cs : List Value) (hc : cs = cellsPc ps) (q : Q (w.alloc (.cells cs.toArray 121)) W) : Rds W W.heap.size (some ⟨w.heap.size, 0, none⟩) (cellsPc ps) := by
  subst hc
  exact ((own_new w (cellsPc ps) 121).q q).rds

theorem concat_end {w w2 W w6 : World} {v : Value} {ps0 ps1 : List Pc} {sg : ByteArray} (o6 : w6.ownsRow W.heap.size 121 2 v [ps0, [sayP sg], ps1].flatten.length (cellsPc [ps0, [sayP sg], ps1].flatten)) (p : Q w2 W) (q2 : Q w w2) (q6 : Q W w6) : PcsPost (ps0 ++ sayP sg :: ps1) w (.returned v) w6 := by
  have e : [ps0, [sayP sg], ps1].flatten = ps0 ++ sayP sg :: ps1 := by simp
  rw [e] at o6
  obtain ⟨g, cap, rfl⟩ := own_slice o6 (by simp; omega)
  exact ⟨g, cap, rfl, row_kept o6 (Q.refl w6) (q2.trans p).size, (q2.trans p).trans q6⟩
set_option maxRecDepth 100000 in
set_option maxHeartbeats 8000000 in
theorem joined_pcs (A S : Option Addr) (n c m d : Nat) (l : List Tg) (st : List Ex) (a : Nat) (sk : List Ex) (sg : ByteArray) (w : World) (hn : n = l.length) (hm : m = l.length) (hr : Rds w w.heap.size A (cellsG l)) (hS : Rds w w.heap.size S (cellsI (startsL l l.length)))
    (hl : l.length ≤ 1000) (hmay : ∀ t ∈ l, mayN t = true) (hs : runS [] l = some st) (ha : a < l.length) (hsk : runS [] (l.take a) = some sk) (h45 : l[a].1 = 4 ∨ l[a].1 = 5) :
    Calls Tryz.prog 105 #[.agg #[.slice A n c, .slice S m d], .int .i64 (a : Int), .string sg] w fun e w' =>
      ∃ K, Ends l a (sk.take (np l[a])).reverse K ∧ NearK a K ∧ PcsPost (jointP l l[a].1 (K[0]?.getD 0) false ++ sayP sg :: jointP l l[a].1 (K[1]?.getD 0) true) w e w' := by
  subst hn hm
  have hq := (Q.refl w).alloc (Obj.cells #[Value.slice A l.length c, Value.slice S l.length d] 112)
  have HBX := Lib.hid (own_new w [Value.slice A l.length c, Value.slice S l.length d] 112)
  have b0 := (HBX.out.2 0 _ rfl).1
  have b1 := (HBX.out.2 1 _ rfl).1
  have HQ := Lib.hid hq
  have HJ : Hid (∀ (W : World) (p : Nat), Q w W → p < l.length → Calls Tryz.prog 116 #[.agg #[.slice A l.length c, .slice S l.length d], .int .i64 (a : Int), .int .i64 (p : Int)] W (PcsPost (jointP l l[a].1 p (decide (p + 1 = a))) W)) := fun W p q hp => joint_any A S l.length c l.length d l a p W rfl (hr.q q) ha hp (by omega)
  have HP : Hid (∀ W : World, Q w W → Calls Tryz.prog 72 #[.agg #[.slice A l.length c, .slice S l.length d], .int .i64 (a : Int)] W fun e w' => ∃ B K, e = .returned (.slice (some ⟨B, 0, none⟩) (np l[a]) (np l[a])) ∧ W.heap.size ≤ B ∧ OwnC w' B (cellsN K) ∧ Ends l a (sk.take (np l[a])).reverse K ∧ NearK a K ∧ Q W w') :=
    fun W q => parts7_any A S l.length c l.length d l st a sk W rfl rfl (hr.q q) (hS.q q) hl hmay hs ha hsk
  have h2 : np l[a] = 2 := np_two (hmay l[a] (List.getElem_mem ha)) h45
  obtain ⟨sn, hsn⟩ := run_take hs (a + 1)
  obtain ⟨hnp, _⟩ := run_next ha hsk hsn
  rw [h2] at HP hnp ⊢
  clear hr hS hmay hs hsk hsn hq h45 h2
  generalize l[a].1 = kd at *
  go_enter Tryz.func105, Tryz.ntmps105
  go_upto_region 2 with (go_at_call 72; refine (HP.out _ HQ.out).mono ?_; rintro e w2 ⟨B, K, rfl, hB, hOK, hE, hN, q2⟩; have HOK := Lib.hid hOK; have HE := Lib.hid hE; have HN := Lib.hid hN; have HQ2 := Lib.hid (HQ.out.trans q2); have b0' := (HBX.out.q q2).2 0 _ rfl |>.1; have b1' := (HBX.out.q q2).2 1 _ rfl |>.1; clear hOK hE hN)
  have hlen : K.length = 2 := by rw [HE.out.len, List.length_reverse, List.length_take]; omega
  obtain ⟨k0, k1, rfl⟩ := two_of hlen
  have l0 : k0 < l.length := Nat.lt_trans (HE.out.each 0 (by simp) (by simp; omega)).1 ha
  have l1 : k1 < l.length := Nat.lt_trans (HE.out.each 1 (by simp) (by simp; omega)).1 ha
  have n0 : decide (k0 + 1 = a) = false := decide_eq_false fun h => absurd ((HN.out 0 (by simp)).1 h) (by simp)
  have n1 : decide (k1 + 1 = a) = true := decide_eq_true ((HN.out 1 (by simp)).2 (by simp))
  have CJ0 : Hid (∀ (W : World), Q w W → Calls Tryz.prog 116 #[.agg #[.slice A l.length c, .slice S l.length d], .int .i64 (a : Int), .int .i64 (k0 : Int)] W (PcsPost (jointP l kd k0 false) W)) := fun W q => by have := HJ.out W k0 q l0; rwa [n0] at this
  have CJ1 : Hid (∀ (W : World), Q w W → Calls Tryz.prog 116 #[.agg #[.slice A l.length c, .slice S l.length d], .int .i64 (a : Int), .int .i64 (k1 : Int)] W (PcsPost (jointP l kd k1 true) W)) := fun W q => by have := HJ.out W k1 q l1; rwa [n1] at this
  have x0 := (HOK.out.2 0 _ rfl).1
  have x1 := (HOK.out.2 1 _ rfl).1
  have hlt : w.heap.size < w2.heap.size := by have := HBX.out.1; have := q2.size; omega
  have hBlt := HOK.out.1
  have HS : Hid (∀ W, Q w2 W → W.cell? ⟨w.heap.size, 0, none⟩ = some (.slice A l.length c) ∧ W.cell? ⟨w.heap.size, 1, none⟩ = some (.slice S l.length d) ∧ W.cell? ⟨B, 0, none⟩ = some (.int .i64 (k0 : Int)) ∧ W.cell? ⟨B, 1, none⟩ = some (.int .i64 (k1 : Int))) :=
    fun W q => ⟨(q.cell (p := ⟨w.heap.size, 0, none⟩) hlt).trans b0', (q.cell (p := ⟨w.heap.size, 1, none⟩) hlt).trans b1', (q.cell (p := ⟨B, 0, none⟩) hBlt).trans x0, (q.cell (p := ⟨B, 1, none⟩) hBlt).trans x1⟩
  have HL0 := Lib.hid (jointP_len l kd k0 false)
  have HL1 := Lib.hid (jointP_len l kd k1 true)
  have HEN := Lib.hid (And.intro HE.out HN.out)
  generalize hj0 : jointP l kd k0 false = ps0 at *
  generalize hj1 : jointP l kd k1 true = ps1 at *
  have HP0 := Lib.hid hj0
  have HP1 := Lib.hid hj1
  clear HJ HP HE HN n0 n1 l0 l1 hlen b0 b1 HBX HOK hj0 hj1 q2
  go_region_held3 (fun w' => w'.cell? ⟨w.heap.size, 0, none⟩ = some (.slice A l.length c) ∧ w'.cell? ⟨w.heap.size, 1, none⟩ = some (.slice S l.length d) ∧ w'.cell? ⟨B, 0, none⟩ = some (.int .i64 (k0 : Int)) ∧ w'.cell? ⟨B, 1, none⟩ = some (.int .i64 (k1 : Int)))
    (first
      | (with_reducible exact HS.out _ p6)
      | (with_reducible exact HS.out _ p5)
      | (with_reducible exact HS.out _ (p4.alloc _))
      | (with_reducible exact HS.out _ p4)
      | (with_reducible exact HS.out _ p3)
      | go_keep)
    (first
      | (go_at_call 104; refine (say_any _ _).mono ?_; rintro e w4 ⟨rfl, q4⟩; have p4 := p3.trans q4)
      | (go_at_call 116; (with_reducible refine (CJ1.out _ ?_).mono ?_); (first | (with_reducible exact HQ2.out.trans (p4.alloc _)) | (with_reducible exact HQ2.out.trans p4)); rintro e w5 ⟨g5, c5, rfl, o5, q5⟩; (first | (have p5 : Q w2 w5 := by (with_reducible exact (p4.alloc _).trans q5)); (have ord1 := q5) | (have p5 : Q w2 w5 := by (with_reducible exact p4.trans q5)); (have ord2 := q5)))
      | (go_at_call 116; (with_reducible refine (CJ0.out _ (HQ2.out.drew)).mono ?_); rintro e w3 ⟨g3, c3, rfl, o3, q3⟩; have p3 := (Q.refl w2).drew.trans q3)
      | (go_at_call 115; have ordx := ord1; refine (concat_pcs _ 3 3 [ps0, [sayP sg], ps1] _ rfl (rw3 _ (pcs_rds o3 (q4.trans (((Q.refl _).alloc _).trans q5))) (lit_rds [sayP sg] [.string sg, .int .i64 (-1)] rfl q5) (pcs_rds o5 (Q.refl w5)) rfl rfl rfl (by simp)) (by simp) (by have := HL0.out; have := HL1.out; simp; omega)).mono ?_; rintro e w6 ⟨v, rfl, o6, q6⟩; have p6 := (p5.alloc _).trans q6; have HR := Lib.hid (concat_end o6 (p5.alloc _) HQ2.out q6))
      | (go_at_call 115; have ordx := ord2; refine (concat_pcs _ 3 3 [ps0, [sayP sg], ps1] _ rfl (rw3 _ (pcs_rds o3 (q4.trans (q5.trans ((Q.refl _).alloc _)))) (lit_rds [sayP sg] [.string sg, .int .i64 (-1)] rfl (Q.refl _)) (pcs_rds o5 ((Q.refl _).alloc _)) rfl rfl rfl (by simp)) (by simp) (by have := HL0.out; have := HL1.out; simp; omega)).mono ?_; rintro e w6 ⟨v, rfl, o6, q6⟩; have p6 := ((p5.alloc _).alloc _).trans q6; have HR := Lib.hid (concat_end o6 ((p5.alloc _).alloc _) HQ2.out q6)))
  all_goals
   clear o3 o5 o6 q3 q4 q6 p3 p4 p6
   have HR2 := HR.out
   obtain ⟨g, cap, he, HR3⟩ := HR2
   injection he with he
   subst he
   clear HR
   have HR := Lib.hid HR3
   go_wp2_with fail
   go_ret
   refine ⟨[k0, k1], HEN.out.1, HEN.out.2, ?_⟩
   simp only [List.getElem?_cons_zero, List.getElem?_cons_succ, Option.getD_some]
   rw [HP0.out, HP1.out]
   exact ⟨g, cap, rfl, HR.out⟩

set_option maxRecDepth 100000 in
set_option maxHeartbeats 2000000 in
theorem union_pcs (A S : Option Addr) (n c m d : Nat) (l : List Tg) (st : List Ex) (a : Nat) (sk : List Ex) (w : World) (hn : n = l.length) (hm : m = l.length) (hr : Rds w w.heap.size A (cellsG l)) (hS : Rds w w.heap.size S (cellsI (startsL l l.length)))
    (hl : l.length ≤ 1000) (hmay : ∀ t ∈ l, mayN t = true) (hs : runS [] l = some st) (ha : a < l.length) (hsk : runS [] (l.take a) = some sk) (h4 : l[a].1 = 4) :
    Calls Tryz.prog 94 #[.agg #[.slice A n c, .slice S m d], .int .i64 (a : Int)] w (NodePost l a ha sk w) := by
  subst hn hm
  have hq := (Q.refl w).alloc (Obj.cells #[Value.slice A l.length c, Value.slice S l.length d] 112)
  have hbx := own_new w [Value.slice A l.length c, Value.slice S l.length d] 112
  have b0 := (hbx.2 0 _ rfl).1
  have b1 := (hbx.2 1 _ rfl).1
  have CJ := Lib.hid (joined_pcs A S l.length c l.length d l st a sk ⟨#[124]⟩ _ rfl rfl (hr.q hq) (hS.q hq) hl hmay hs ha hsk (by rw [h4]; decide))
  have HQ := Lib.hid hq
  have H4 := Lib.hid h4
  clear hr hS hmay hs hsk hq hbx h4
  go_enter Tryz.func94, Tryz.ntmps94
  go_wp2_with (go_at_call 105; refine CJ.out.mono ?_; rintro e w2 ⟨K, hE, hN, g, cap, rfl, own, q2⟩; have HE := Lib.hid hE; have HN := Lib.hid hN; have HO := Lib.hid (row_kept own (Q.refl w2) HQ.out.size); have HQ2 := Lib.hid (HQ.out.trans q2); clear hE hN own q2)
  go_ret
  have e : pcs l l[a] a K = jointP l l[a].1 (K[0]?.getD 0) false ++ sayP ⟨#[124]⟩ :: jointP l l[a].1 (K[1]?.getD 0) true := by
    unfold pcs; rw [H4.out]; rfl
  exact ⟨K, HE.out, HN.out, by rw [e]; exact ⟨g, cap, by rw [List.length_append, List.length_cons]; rfl, HO.out, HQ2.out⟩⟩

set_option maxRecDepth 100000 in
set_option maxHeartbeats 2000000 in
theorem inter_pcs (A S : Option Addr) (n c m d : Nat) (l : List Tg) (st : List Ex) (a : Nat) (sk : List Ex) (w : World) (hn : n = l.length) (hm : m = l.length) (hr : Rds w w.heap.size A (cellsG l)) (hS : Rds w w.heap.size S (cellsI (startsL l l.length)))
    (hl : l.length ≤ 1000) (hmay : ∀ t ∈ l, mayN t = true) (hs : runS [] l = some st) (ha : a < l.length) (hsk : runS [] (l.take a) = some sk) (h4 : l[a].1 = 5) :
    Calls Tryz.prog 95 #[.agg #[.slice A n c, .slice S m d], .int .i64 (a : Int)] w (NodePost l a ha sk w) := by
  subst hn hm
  have hq := (Q.refl w).alloc (Obj.cells #[Value.slice A l.length c, Value.slice S l.length d] 112)
  have hbx := own_new w [Value.slice A l.length c, Value.slice S l.length d] 112
  have b0 := (hbx.2 0 _ rfl).1
  have b1 := (hbx.2 1 _ rfl).1
  have CJ := Lib.hid (joined_pcs A S l.length c l.length d l st a sk ⟨#[38]⟩ _ rfl rfl (hr.q hq) (hS.q hq) hl hmay hs ha hsk (by rw [h4]; decide))
  have HQ := Lib.hid hq
  have H4 := Lib.hid h4
  clear hr hS hmay hs hsk hq hbx h4
  go_enter Tryz.func95, Tryz.ntmps95
  go_wp2_with (go_at_call 105; refine CJ.out.mono ?_; rintro e w2 ⟨K, hE, hN, g, cap, rfl, own, q2⟩; have HE := Lib.hid hE; have HN := Lib.hid hN; have HO := Lib.hid (row_kept own (Q.refl w2) HQ.out.size); have HQ2 := Lib.hid (HQ.out.trans q2); clear hE hN own q2)
  go_ret
  have e : pcs l l[a] a K = jointP l l[a].1 (K[0]?.getD 0) false ++ sayP ⟨#[38]⟩ :: jointP l l[a].1 (K[1]?.getD 0) true := by
    unfold pcs; rw [H4.out]; rfl
  exact ⟨K, HE.out, HN.out, by rw [e]; exact ⟨g, cap, by rw [List.length_append, List.length_cons]; rfl, HO.out, HQ2.out⟩⟩
end Go.Proofs.YtdmdcggmgipdbaaGreatDoor.Ex

namespace Go.Proofs.YtdmdcggmgipdbaaGreatDoor.Ex
open Go.RowKit Kit Go.Maps

theorem lawI : Keyed Tryz.prog 3 := int_keyed Tryz.underlying3
theorem zeroF (w : World) : (zeroValue 124).run Tryz.prog w = .ok .nilFunc w := by kernel_rfl
/-- a function as data: its number -/
def RF : Value → Option (DataW Unit × List MemPlace)
  | .func (.func n) ⟨[]⟩ ⟨[]⟩ => some (.lit (.int .i64 n), [])
  | .nilFunc => some (.lit (.int .i64 (-1)), [])
  | _ => none
theorem RF_inv {v : Value} {n : Nat} {ps : List MemPlace} (h : RF v = some (.lit (.int .i64 (n : Int)), ps)) : v = .func (.func n) #[] #[] := by
  unfold RF at h
  split at h
  · injection h with h
    injection h with h _
    injection h with h
    injection h with _ h
    have : ∀ a : Nat, (a : Int) = (n : Int) → a = n := fun a e => by omega
    rw [this _ h]
  · injection h with h
    injection h with h _
    injection h with h
    injection h with _ h
    have h' : (-1 : Int) = (n : Int) := h
    omega
  · cases h
def kinds7 : List (Int × Nat) := [(0, 90), (1, 91), (2, 92), (3, 93), (4, 94), (5, 95), (6, 96)]
def D7 : DataW Unit := (((((((.map [] : DataW Unit).put (.int .i64 0) (.lit (.int .i64 90))).put (.int .i64 1) (.lit (.int .i64 91))).put (.int .i64 2) (.lit (.int .i64 92))).put (.int .i64 3) (.lit (.int .i64 93))).put (.int .i64 4) (.lit (.int .i64 94))).put (.int .i64 5) (.lit (.int .i64 95))).put (.int .i64 6) (.lit (.int .i64 96))
theorem D7_eq : D7 = .map [(.int .i64 0, .lit (.int .i64 90)), (.int .i64 1, .lit (.int .i64 91)), (.int .i64 2, .lit (.int .i64 92)), (.int .i64 3, .lit (.int .i64 93)), (.int .i64 4, .lit (.int .i64 94)), (.int .i64 5, .lit (.int .i64 95)), (.int .i64 6, .lit (.int .i64 96))] := rfl
theorem D7_at (k : Int) (n : Nat) (h : (k, n) ∈ kinds7) : D7.atKey (.int .i64 k) (.lit (.int .i64 (-1))) = .lit (.int .i64 (n : Int)) := by
  simp only [kinds7, List.mem_cons, List.not_mem_nil, or_false, Prod.mk.injEq] at h
  rw [D7_eq]
  unfold DataW.atKey
  rcases h with ⟨rfl, rfl⟩ | ⟨rfl, rfl⟩ | ⟨rfl, rfl⟩ | ⟨rfl, rfl⟩ | ⟨rfl, rfl⟩ | ⟨rfl, rfl⟩ | ⟨rfl, rfl⟩ <;> rfl
theorem kinds7_wf (k : Int) (n : Nat) (h : (k, n) ∈ kinds7) : (Lit.int .i64 k).wf = true := by
  simp only [kinds7, List.mem_cons, List.not_mem_nil, or_false, Prod.mk.injEq] at h
  rcases h with ⟨rfl, rfl⟩ | ⟨rfl, rfl⟩ | ⟨rfl, rfl⟩ | ⟨rfl, rfl⟩ | ⟨rfl, rfl⟩ | ⟨rfl, rfl⟩ | ⟨rfl, rfl⟩ <;> rfl

def TextsPost (w : World) (e : Ending) (w' : World) : Prop :=
  ∃ B, e = .returned (.map (some B)) ∧ Q w w' ∧ ∀ W, Q w' W → ∀ k n, (k, n) ∈ kinds7 → (Instr.lookup 118 (.map (some B)) (.int .i64 k) false).run Tryz.prog W = .ok (.func (.func n) #[] #[]) W
theorem texts_close {w w' : World} {B n : Nat} (h : w'.ownsMap Tryz.prog 3 RF B n D7) (q : Q w w') : TextsPost w (.returned (.map (some B))) w' := by
  refine ⟨B, rfl, q, fun W hW k m hk => ?_⟩
  have hlt := h.lt
  obtain ⟨es, clock, hb, F, hs, hD⟩ := h
  have h' : W.ownsMap Tryz.prog 3 RF B n D7 := ⟨es, clock, (hW.block B hlt).trans hb, F, hs, hD⟩
  obtain ⟨v, ps, hrun, hv⟩ := h'.lookup lawI Tryz.underlying118 (zeroF W) (zd := .lit (.int .i64 (-1))) (zp := []) rfl (keyOf_int_mk Tryz.underlying3 (kinds7_wf k m hk))
  rw [D7_at k m hk] at hv
  rw [hrun, RF_inv hv]

set_option maxRecDepth 100000 in
set_option maxHeartbeats 1000000 in
theorem texts_any (w : World) : Calls Tryz.prog 75 #[] w (TextsPost w) := by
  have hmm := @run_makeMap Tryz.prog
  have o0 := World.ownsMap_made w Tryz.prog 3 RF
  have q0 := (Q.refl w).alloc (.map #[] 0)
  obtain ⟨w1, e1, o1, g1⟩ := o0.update (val := .func (.func 90) #[] #[]) (d := .lit (.int .i64 90)) (ps := []) lawI Tryz.underlying118 (by unfold maxLen; omega) (keyOf_int_mk Tryz.underlying3 (a := 0) (by decide)) rfl
  obtain ⟨w2, e2, o2, g2⟩ := o1.update (val := .func (.func 91) #[] #[]) (d := .lit (.int .i64 91)) (ps := []) lawI Tryz.underlying118 (by unfold maxLen; omega) (keyOf_int_mk Tryz.underlying3 (a := 1) (by decide)) rfl
  obtain ⟨w3, e3, o3, g3⟩ := o2.update (val := .func (.func 92) #[] #[]) (d := .lit (.int .i64 92)) (ps := []) lawI Tryz.underlying118 (by unfold maxLen; omega) (keyOf_int_mk Tryz.underlying3 (a := 2) (by decide)) rfl
  obtain ⟨w4, e4, o4, g4⟩ := o3.update (val := .func (.func 93) #[] #[]) (d := .lit (.int .i64 93)) (ps := []) lawI Tryz.underlying118 (by unfold maxLen; omega) (keyOf_int_mk Tryz.underlying3 (a := 3) (by decide)) rfl
  obtain ⟨w5, e5, o5, g5⟩ := o4.update (val := .func (.func 94) #[] #[]) (d := .lit (.int .i64 94)) (ps := []) lawI Tryz.underlying118 (by unfold maxLen; omega) (keyOf_int_mk Tryz.underlying3 (a := 4) (by decide)) rfl
  obtain ⟨w6, e6, o6, g6⟩ := o5.update (val := .func (.func 95) #[] #[]) (d := .lit (.int .i64 95)) (ps := []) lawI Tryz.underlying118 (by unfold maxLen; omega) (keyOf_int_mk Tryz.underlying3 (a := 5) (by decide)) rfl
  obtain ⟨w7, e7, o7, g7⟩ := o6.update (val := .func (.func 96) #[] #[]) (d := .lit (.int .i64 96)) (ps := []) lawI Tryz.underlying118 (by unfold maxLen; omega) (keyOf_int_mk Tryz.underlying3 (a := 6) (by decide)) rfl
  have q1 : Q w w1 := q0.grown g1 (by simp) (by intro b hb; cases hb; exact Nat.le_refl _)
  have q2 : Q w w2 := q1.grown g2 q1.size (by intro b hb; cases hb; exact Nat.le_refl _)
  have q3 : Q w w3 := q2.grown g3 q2.size (by intro b hb; cases hb; exact Nat.le_refl _)
  have q4 : Q w w4 := q3.grown g4 q3.size (by intro b hb; cases hb; exact Nat.le_refl _)
  have q5 : Q w w5 := q4.grown g5 q4.size (by intro b hb; cases hb; exact Nat.le_refl _)
  have q6 : Q w w6 := q5.grown g6 q5.size (by intro b hb; cases hb; exact Nat.le_refl _)
  have q7 : Q w w7 := q6.grown g7 q6.size (by intro b hb; cases hb; exact Nat.le_refl _)
  have H7 := Lib.hid o7
  clear o0 o1 o2 o3 o4 o5 o6 o7 g1 g2 g3 g4 g5 g6 g7 q0 q1 q2 q3 q4 q5 q6
  go_enter Tryz.func75, Tryz.ntmps75
  go_wp2_with fail
  go_ret
  exact texts_close H7.out q7
end Go.Proofs.YtdmdcggmgipdbaaGreatDoor.Ex

namespace Go.Proofs.YtdmdcggmgipdbaaGreatDoor.Ex
open Go.RowKit Kit Rw
open Go.Proofs.YtdmdcggmgipdbaaGreatDoor.Nm

theorem node_any (A S : Option Addr) (n c m d : Nat) (l : List Tg) (st : List Ex) (a : Nat) (sk : List Ex) (f : Nat) (w : World) (hn : n = l.length) (hm : m = l.length) (hr : Rds w w.heap.size A (cellsG l)) (hS : Rds w w.heap.size S (cellsI (startsL l l.length)))
    (hl : l.length ≤ 1000) (hmay : ∀ t ∈ l, mayN t = true) (hs : runS [] l = some st) (ha : a < l.length) (hsk : runS [] (l.take a) = some sk) (hf : (l[a].1, f) ∈ kinds7) :
    Calls Tryz.prog f #[.agg #[.slice A n c, .slice S m d], .int .i64 (a : Int)] w (NodePost l a ha sk w) := by
  have hma := hmay l[a] (List.getElem_mem ha)
  simp only [kinds7, List.mem_cons, List.not_mem_nil, or_false, Prod.mk.injEq] at hf
  rcases hf with ⟨hk, rfl⟩ | ⟨hk, rfl⟩ | ⟨hk, rfl⟩ | ⟨hk, rfl⟩ | ⟨hk, rfl⟩ | ⟨hk, rfl⟩ | ⟨hk, rfl⟩
  · exact (zero_any A S n c m d a w).mono fun e w' h => node_leaf hma (.inl hk) (by unfold pcs; rw [if_pos hk]) h
  · exact (one_any A S n c m d a w).mono fun e w' h => node_leaf hma (.inr (.inl hk)) (by unfold pcs; rw [if_neg (by omega), if_pos hk]) h
  · exact (pname_any A S n c m d l a w hn hr ha).mono fun e w' h => node_leaf hma (.inr (.inr hk)) (by unfold pcs; rw [if_neg (by omega), if_neg (by omega), if_neg (by omega), if_neg (by omega), if_neg (by omega), if_neg (by omega)]) h
  · exact con_pcs A S n c m d l st a sk w hn hm hr hS hl hmay hs ha hsk hk
  · exact union_pcs A S n c m d l st a sk w hn hm hr hS hl hmay hs ha hsk hk
  · exact inter_pcs A S n c m d l st a sk w hn hm hr hS hl hmay hs ha hsk hk
  · obtain ⟨n1, f, hf, h1, h8⟩ := np_proj hma hk
    obtain ⟨sn, hsn⟩ := run_take hs (a + 1)
    obtain ⟨hnp, _⟩ := run_next ha hsk hsn
    have ha0 : 0 < a := by
      rcases Nat.eq_zero_or_pos a with e | e
      · subst e
        injection hsk with hsk
        subst hsk
        simp at hnp
        omega
      · exact e
    refine (proj_pcs A S n c m d l a f w hn hr ha ha0 hf h1 h8 (by omega)).mono fun e w' h => node_proj hsk hnp n1 ha0 fun K => ?_
    have e : pcs l l[a] a K = [sayP l[a].2.1, sayP ⟨#[126]⟩, sayP ⟨#[figD f]⟩, sayP ⟨#[40]⟩, atP (a - 1), sayP ⟨#[41]⟩] := by
      unfold pcs
      rw [if_neg (by omega), if_neg (by omega), if_neg (by omega), if_neg (by omega), if_neg (by omega), if_pos hk, hf]
      rfl
    rw [e]
    exact h

/-- rows of two types lie apart -/
theorem rows_apart {w : World} {b1 b2 s1 s2 n1 n2 : Nat} {e1 e2 : TypeId} {v1 v2 : Value} {x1 x2 : List Value} (h1 : w.ownsRow b1 e1 s1 v1 n1 x1) (h2 : w.ownsRow b2 e2 s2 v2 n2 x2) (he : e1 ≠ e2) : v1.ownBlock = none ∨ v1.ownBlock ≠ v2.ownBlock := by
  obtain ⟨_, ⟨rfl, _⟩ | ⟨g, c, cur, rfl, _, hh, _⟩⟩ := h1
  · exact .inl rfl
  · right
    obtain ⟨_, ⟨rfl, _⟩ | ⟨g', c', cur', rfl, _, hh', _⟩⟩ := h2
    · intro e; cases e
    · intro e
      have e : some g = some g' := e
      injection e with e
      subst e
      rw [hh] at hh'
      injection hh' with hh'
      injection hh' with _ h
      exact he h

def pcOf (w : World) (g j : Nat) : Pc := ((match w.cell? ⟨g, j * 2, none⟩ with | some (.string s) => s | _ => ⟨#[]⟩), (match w.cell? ⟨g, j * 2 + 1, none⟩ with | some (.int _ k) => k | _ => 0))
/-- the pieces that a slice has in memory -/
def pcsOf (w : World) : Value → List Pc
  | .slice (some a) n _ => (List.range n).map fun j => pcOf w a.block j
  | _ => []
theorem pcsOf_row {w : World} {base : Nat} {v : Value} {ps : List Pc} (h : w.ownsRow base 121 2 v ps.length (cellsPc ps)) : pcsOf w v = ps := by
  have h' := h
  obtain ⟨_, ⟨rfl, h0⟩ | ⟨g, c, cur, rfl, _⟩⟩ := h
  · rw [List.length_eq_zero_iff.1 h0]; rfl
  · unfold pcsOf
    apply List.ext_getElem
    · simp
    · intro j h1 h2
      simp only [List.getElem_map, List.getElem_range]
      unfold pcOf
      rw [h'.cellAt (j * 2) (by omega), h'.cellAt (j * 2 + 1) (by omega), (cellsPc_at ps j h2).1, (cellsPc_at ps j h2).2]
/-- a row without its last piece -/
theorem pcs_pop {w : World} {base g cap : Nat} {ps : List Pc} {p : Pc} (h : w.ownsRow base 121 2 (.slice (some ⟨g, 0, none⟩) (ps.length + 1) cap) (ps.length + 1) (cellsPc (ps ++ [p]))) : w.ownsRow base 121 2 (.slice (some ⟨g, 0, none⟩) ps.length cap) ps.length (cellsPc ps) := by
  obtain ⟨hl, ⟨e, h0⟩ | ⟨g', cap', cur, e, hg, hh, hc, hm, hcs, ht⟩⟩ := h
  · simp at h0
  · injection e with e1 e2 e3
    injection e1 with e1
    injection e1 with e1
    subst e1 e3
    refine ⟨cellsPc_len ps, .inr ⟨g, cap, cur, rfl, hg, hh, by omega, hm, hcs, ?_⟩⟩
    have e1 : (cur.toList.take ((ps.length + 1) * 2)).take (ps.length * 2) = cur.toList.take (ps.length * 2) := by rw [List.take_take, Nat.min_eq_left (by omega)]
    rw [← e1, ht, cellsPc_app, List.take_append_of_le_length (by rw [cellsPc_len]; exact Nat.le_refl _), List.take_of_length_le (by rw [cellsPc_len]; exact Nat.le_refl _)]
theorem pcs_last {w : World} {base g cap : Nat} {ps : List Pc} {p : Pc} (h : w.ownsRow base 121 2 (.slice (some ⟨g, 0, none⟩) (ps.length + 1) cap) (ps.length + 1) (cellsPc (ps ++ [p]))) :
    w.cell? ⟨g, ps.length * 2, none⟩ = some (.string p.1) ∧ w.cell? ⟨g, ps.length * 2 + 1, none⟩ = some (.int .i64 p.2) := by
  have hk : ps.length < (ps ++ [p]).length := by simp
  have e := cellsPc_at (ps ++ [p]) ps.length hk
  have ee : (ps ++ [p])[ps.length] = p := by simp
  rw [ee] at e
  rw [h.cellAt (ps.length * 2) (by omega), h.cellAt (ps.length * 2 + 1) (by omega)]
  exact e
def cellsB (l : List UInt8) : List Value := l.map fun b => Value.int .u8 b.toNat
theorem cellsB_app (l : List UInt8) (s : ByteArray) : cellsB (l ++ s.data.toList) = cellsB l ++ Lib.strCells s := by simp [cellsB, Lib.strCells]
theorem byteInfo : (Tryz.prog.info? 5).map (fun i => (i.zero, i.size, i.bytes)) = some (some (.int .u8 0), 1, 1) := by kernel_rfl
end Go.Proofs.YtdmdcggmgipdbaaGreatDoor.Ex
