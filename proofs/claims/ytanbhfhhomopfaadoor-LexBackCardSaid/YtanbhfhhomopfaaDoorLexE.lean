/-
  Rows of tokens in memory; contract of Toks.
-/
import Derived.Test.YtanbhfhhomopfaaDoorLexD
import Derived.Test.YtanbhfhhomopfaaDoorKitRds
import Derived.Laws.EntriesVeiled
import Derived.WalkMore
namespace Go.Proofs.YtanbhfhhomopfaaDoor.Lx
open Go.RowKit Kit Rw

def bs (l : List UInt8) : ByteArray := ⟨l.toArray⟩
theorem bs_list (l : List UInt8) : (bs l).data.toList = l := by simp [bs]
theorem bs_back (s : ByteArray) : bs s.data.toList = s := by cases s; simp [bs]
theorem bs_size (l : List UInt8) : (bs l).size = l.length := by simp [bs, ByteArray.size]
/-- any token as memory has it: its kind, its text, where it begins -/
abbrev Tg := Int × ByteArray × Int
def tg (t : Tk) : Tg := (t.kind, bs t.text, t.pos)
def cellsG : List Tg → List Value
  | [] => []
  | t :: l => .int .i64 t.1 :: .string t.2.1 :: .int .i64 t.2.2 :: cellsG l
theorem cellsG_len (l : List Tg) : (cellsG l).length = l.length * 3 := by
  induction l with
  | nil => rfl
  | cons s l ih => simp [cellsG, ih]; omega
theorem cellsG_append (a b : List Tg) : cellsG (a ++ b) = cellsG a ++ cellsG b := by
  induction a with
  | nil => rfl
  | cons s l ih => simp [cellsG, ih]
theorem cellsG_one (l : List Tg) : ∀ v ∈ cellsG l, v.oneCell' = true := by
  induction l with
  | nil => simp [cellsG]
  | cons s l ih => simp only [cellsG, List.mem_cons]; rintro v (rfl | rfl | rfl | h); exact rfl; exact rfl; exact rfl; exact ih v h
theorem cellsG_0 (l : List Tg) (i : Nat) : (cellsG l)[i * 3]? = l[i]?.map fun s => Value.int .i64 s.1 := by
  induction l generalizing i with
  | nil => simp [cellsG]
  | cons s l ih =>
    cases i with
    | zero => rfl
    | succ i => rw [show (i + 1) * 3 = i * 3 + 1 + 1 + 1 by omega]; simpa [cellsG] using ih i
theorem cellsG_1 (l : List Tg) (i : Nat) : (cellsG l)[i * 3 + 1]? = l[i]?.map fun s => Value.string s.2.1 := by
  induction l generalizing i with
  | nil => simp [cellsG]
  | cons s l ih =>
    cases i with
    | zero => rfl
    | succ i => rw [show (i + 1) * 3 + 1 = i * 3 + 1 + 1 + 1 + 1 by omega]; simpa [cellsG] using ih i
theorem cellsG_2 (l : List Tg) (i : Nat) : (cellsG l)[i * 3 + 2]? = l[i]?.map fun s => Value.int .i64 s.2.2 := by
  induction l generalizing i with
  | nil => simp [cellsG]
  | cons s l ih =>
    cases i with
    | zero => rfl
    | succ i => rw [show (i + 1) * 3 + 2 = i * 3 + 2 + 1 + 1 + 1 by omega]; simpa [cellsG] using ih i
abbrev cellsT (l : List Tk) : List Value := cellsG (l.map tg)
theorem cellsT_append (a b : List Tk) : cellsT (a ++ b) = cellsT a ++ cellsT b := by simp [cellsT, cellsG_append]
theorem cellsT_single (k p : Nat) (t : List UInt8) : cellsT [⟨k, t, p⟩] = [.int .i64 k, .string (bs t), .int .i64 p] := rfl
theorem add_two (a : Addr) (n : Nat) : a.add (n + 2) = ⟨(a.add n).block, (a.add n).off + 2, none⟩ := by
  unfold Addr.add
  by_cases h : n = 0 <;> simp [h, Nat.add_assoc]
theorem tok_at {w : World} {B : Nat} {A : Option Addr} {l : List Tg} (h : Rds w B A (cellsG l)) {k : Nat} (hk : k < l.length) :
    ∃ ad, A = some ad ∧ ad.block < B ∧ w.cell? (ad.add (k * 3)) = some (.int .i64 l[k].1) ∧ w.cell? ⟨(ad.add (k * 3)).block, (ad.add (k * 3)).off + 1, none⟩ = some (.string l[k].2.1) ∧
      w.cell? ⟨(ad.add (k * 3)).block, (ad.add (k * 3)).off + 2, none⟩ = some (.int .i64 l[k].2.2) := by
  obtain ⟨ad, e, hlt, hc⟩ := h (by rw [cellsG_len]; omega)
  refine ⟨ad, e, hlt, hc _ _ (by rw [cellsG_0, List.getElem?_eq_getElem hk]; rfl), ?_, ?_⟩
  · rw [← add_succ]
    exact hc _ _ (by rw [cellsG_1, List.getElem?_eq_getElem hk]; rfl)
  · rw [← add_two]
    exact hc _ _ (by rw [cellsG_2, List.getElem?_eq_getElem hk]; rfl)

theorem tokInfo : (Tryd.prog.info? 37).map (fun i => (i.zero, i.size, i.bytes)) = some (some (.agg #[.int .i64 0, .string ⟨#[]⟩, .int .i64 0]), 3, 32) := by kernel_rfl

/-- what Toks answers -/
def ToksPost (l : List Tk) (w : World) : Option Nat → Ending → World → Prop
  | some q, e, w' => e = .returned (.tuple #[.slice none 0 0, .int .i64 (q : Int), .int .i64 2]) ∧ Q w w'
  | none, e, w' => ∃ A c, e = .returned (.tuple #[.slice A l.length c, .int .i64 0, .int .i64 0]) ∧ l.length ≤ c ∧ Rds w' w'.heap.size A (cellsT l) ∧ Q w w'

theorem toks_full (s : ByteArray) (w : World) (h : 2000 < s.size) :
    Calls Tryd.prog 11 #[.string s] w fun e w' => e = .returned (.tuple #[.slice none 0 0, .int .i64 0, .int .i64 7]) ∧ Q w w' := by
  have d : decide (2000 < (s.size : Int)) = true := decide_eq_true (by omega)
  go_enter Tryd.func11, Tryd.ntmps11
  go_wp2_with fail
  go_step3
  go_wp2_with fail
  try rw [Exit.noGoto_ret]
  go_ret3
  exact ⟨rfl, Q.refl _⟩

/-- a token of g + 1 bytes, with what is behind -/
theorem step_tok (s : ByteArray) (k : Nat) (hk : k < s.size) (g : Nat) (hg : goE s k s[k] = g) (h0 : 0 < g) (hb : blank s[k] = false) :
    lx (from_ s k) k = (⟨(kindC s[k]).toNat, (s.extract k (k + g)).data.toList, k⟩ :: (lx (from_ s (k + g)) (k + g)).1, (lx (from_ s (k + g)) (k + g)).2) ∧ k + g ≤ s.size := by
  have ht := tk_go s k hk
  rw [hg, if_neg (by omega)] at ht
  have hle := tk_le ht
  rw [from_len] at hle
  have e1 : (from_ s (k + 1)).drop (g - 1) = from_ s (k + g) := by
    unfold from_; rw [List.drop_drop]; congr 1; omega
  have e2 : (s.extract k (k + g)).data.toList = s[k] :: (from_ s (k + 1)).take (g - 1) := by
    have : (s.extract k (k + g)).data.toList = (from_ s k).take g := by
      simp [from_, List.take_drop]
    rw [this, from_at s k hk]
    cases g with
    | zero => omega
    | succ g => rfl
  refine ⟨?_, by omega⟩
  rw [from_at s k hk, lx_some hb ht, e1, e2, show k + (g - 1) + 1 = k + g by omega]
theorem step_none (s : ByteArray) (k : Nat) (hk : k < s.size) (hg : goE s k s[k] = 0) (hb : blank s[k] = false) : lx (from_ s k) k = ([], some k) := by
  have ht := tk_go s k hk
  rw [hg, if_pos rfl] at ht
  rw [from_at s k hk, lx_none hb ht]
theorem step_blank (s : ByteArray) (k : Nat) (hk : k < s.size) (hb : blank s[k] = true) : lx (from_ s k) k = lx (from_ s (k + 1)) (k + 1) := by rw [from_at s k hk, lx_blank hb]

theorem cut_any (s : ByteArray) (k g : Nat) (h : k + g ≤ s.size) (u : World) : (Instr.slice 9 (.string s) (some (.int .i64 (k : Int))) (some (.int .i64 ((k : Int) + (g : Int)))) none).run Tryd.prog u = .ok (.string (s.extract k (k + g))) u := by
  have := run_slice_string (P := Tryd.prog) (w := u) 9 s .i64 .i64 (k : Int) ((k : Int) + (g : Int)) Tryd.underlying9 (by omega) (by omega) (by omega)
  rw [this, show ((k : Int) + (g : Int)).toNat = k + g by omega, show ((k : Int)).toNat = k by omega]
/-- the midst of a reading -/
structure Mid (s : ByteArray) (l : List Tk) (o : Option Nat) (k : Nat) (n : List Tk) : Prop where
  e : ∃ m, lx (from_ s k) k = (m, o) ∧ l = n ++ m
  few : n.length ≤ k

set_option maxRecDepth 100000 in
set_option maxHeartbeats 4000000 in
theorem toks_any (s : ByteArray) (l : List Tk) (o : Option Nat) (w : World) (hs : s.size ≤ 2000) (hl : lx s.data.toList 0 = (l, o)) :
    Calls Tryd.prog 11 #[.string s] w (ToksPost l w o) := by
  obtain ⟨i0, hi, hz0, hz1, hz2⟩ := info_parts tokInfo
  have Hi := Lib.hid hi
  have Hz0 := Lib.hid hz0
  have Hz1 := Lib.hid hz1
  have Hz2 := Lib.hid hz2
  clear hi hz0 hz1 hz2
  have HM0 : Hid (Mid s l o 0 []) := ⟨⟨l, hl, rfl⟩, Nat.le_refl _⟩
  clear hl
  have d0 : decide (2000 < (s.size : Int)) = false := decide_eq_false (by omega)
  go_enter Tryd.func11, Tryd.ntmps11
  go_wp2_with fail
  go_step3
  go_wp2_with fail
  go_step3
  go_wp2_with fail
  go_loopw [5, 6] (fun out i wr => ∃ (k : Nat) (n : List Tk) (v : Value), k ≤ s.size ∧ i = .int .i64 k ∧ v = out ∧ Hid (Mid s l o k n) ∧ Hid (wr.ownsRow w.heap.size 37 3 v n.length (cellsT n)) ∧ Hid (Q w wr)) (fun _ i _ => s.size - (intOf i).toNat)
  case atStart => exact ⟨0, [], _, Nat.zero_le _, rfl, rfl, HM0, Lib.hid (own_nil w _ _ _), Lib.hid (Q.refl w)⟩
  case round =>
    obtain ⟨k, n, v, hk, rfl, rfl, HM, HO, HQ⟩ := hrel
    by_cases hlt : k < s.size
    · generalize hg : goE s k s[k] = g
      cases hl : ltr s[k]
      · cases hf : fig s[k]
        · cases hb : blank s[k]
          · by_cases h0 : 0 < g
            · skip
              have C1 : Hid (∀ W, Calls Tryd.prog 20 #[.string s, .int .i64 (k : Int)] W fun e W' => e = .returned (.tuple #[.int .i64 3, .func (.func 30) #[.string s] #[]]) ∧ W = W') := fun W => by
                have := begins_any s k W hlt
                simp only [kindC, endC, hl, hf, Bool.false_eq_true, if_false] at this
                exact this
              have C2 : Hid (∀ W, Calls Tryd.prog 30 #[.string s, .int .i64 (k : Int)] W fun e W' => e = .returned (.int .i64 ((k + g : Nat) : Int)) ∧ W = W') := fun W => by
                have := signEnd_any s k W hlt (by omega)
                have e : goE s k s[k] = signE (from_ s k) := by simp only [goE, hl, hf, Bool.false_eq_true, if_false]
                rw [← e, hg] at this
                exact this
              have C3 : Hid (∀ W, Calls Tryd.prog 21 #[.int .u8 (s[k].toNat : Int)] W fun e W' => e = .returned (.bool false) ∧ W = W') := fun W => by
                have := isBlank_any (s[k].toNat : Int) W
                have e : blankI (s[k].toNat : Int) = blank s[k] := rfl
                rw [e, hb] at this
                exact this
              obtain ⟨ht, hle⟩ := step_tok s k hlt g hg h0 hb
              have HM' : Hid (Mid s l o (k + g) (n ++ [⟨3, (s.extract k (k + g)).data.toList, k⟩])) := by
                obtain ⟨⟨m, e1, e2⟩, e3⟩ := HM.out
                have e4 : (kindC s[k]).toNat = 3 := by simp only [kindC, hl, hf, Bool.false_eq_true, if_false]; rfl
                rw [ht, e4] at e1
                injection e1 with e1 e5
                exact ⟨⟨(lx (from_ s (k + g)) (k + g)).1, by rw [← e5], by rw [e2, ← e1]; simp⟩, by simp; omega⟩
              have hfew := HM.out.few
              have hd : ((k : Int) + (g : Int) == (k : Int)) = false := beq_eq_false_iff_ne.2 (by omega)
              have HC := cut_any s k g hle
              clear hl hf hb hg ht
              have HbE : Hid (∀ W : World, Src (W.alloc (Obj.cells #[.int .i64 3, .string (s.extract k (k + g)), .int .i64 (k : Int)] 37)) (some ⟨W.heap.size, 0, none⟩) [.int .i64 3, .string (s.extract k (k + g)), .int .i64 (k : Int)]) := fun W => src_alloc W _ _ _
              go_wp2_with (first
                | (go_at_call 20; refine (C1.out _).mono ?_; rintro e w1 ⟨rfl, rfl⟩)
                | (go_at_call 30; refine (C2.out _).mono ?_; rintro e w1 ⟨rfl, rfl⟩)
                | (go_at_call 21; refine (C3.out _).mono ?_; rintro e w1 ⟨rfl, rfl⟩)
                | (at_builtin; refine wpList_append_src _ rfl (.tmp 26) (.tmp 34) _ rfl w.heap.size 37 i0 _ 3 32 Tryd.underlying23 Hi.out Hz0.out Hz1.out Hz2.out rfl (by omega) v n.length (cellsT n) rfl (row_kept HO.out ((Q.refl wr).alloc _) (Nat.le_refl _)) (some ⟨wr.heap.size, 0, none⟩) 1 1 [.int .i64 3, .string (s.extract k (k + g)), .int .i64 (k : Int)] rfl rfl (HbE.out wr) (by simp [Value.oneCell']) (by unfold maxLen; omega) (by omega) ((HQ.out.alloc _).size) ?_; intro v' w' own' gr' _; have Own := Lib.hid own'; have HQ' : Hid (Q w w') := Below.grown (HQ.out.alloc _) gr' ((HQ.out.alloc _).size) (fun i e => (HO.out.lt i e).1); clear own' gr'))
              go_roundw
              case rel => exact ⟨k + g, _, v', by omega, by go_num, rfl, HM', by rw [cellsT_append, List.length_append, cellsT_single, bs_back]; exact Own, HQ'⟩
              case measure => simp [intOf]; omega
            · obtain rfl : g = 0 := by omega
              have C1 : Hid (∀ W, Calls Tryd.prog 20 #[.string s, .int .i64 (k : Int)] W fun e W' => e = .returned (.tuple #[.int .i64 3, .func (.func 30) #[.string s] #[]]) ∧ W = W') := fun W => by
                have := begins_any s k W hlt
                simp only [kindC, endC, hl, hf, Bool.false_eq_true, if_false] at this
                exact this
              have C2 : Hid (∀ W, Calls Tryd.prog 30 #[.string s, .int .i64 (k : Int)] W fun e W' => e = .returned (.int .i64 ((k + 0 : Nat) : Int)) ∧ W = W') := fun W => by
                have := signEnd_any s k W hlt (by omega)
                have e : goE s k s[k] = signE (from_ s k) := by simp only [goE, hl, hf, Bool.false_eq_true, if_false]
                rw [← e, hg] at this
                exact this
              have C3 : Hid (∀ W, Calls Tryd.prog 21 #[.int .u8 (s[k].toNat : Int)] W fun e W' => e = .returned (.bool false) ∧ W = W') := fun W => by
                have := isBlank_any (s[k].toNat : Int) W
                have e : blankI (s[k].toNat : Int) = blank s[k] := rfl
                rw [e, hb] at this
                exact this
              have HE : Hid (o = some k) := by
                obtain ⟨⟨m, e1, e2⟩, e3⟩ := HM.out
                rw [step_none s k hlt hg hb] at e1
                injection e1 with _ e1
                exact e1.symm
              clear hl hf hb hg
              have hd : ((k : Int) + ((0 : Nat) : Int) == (k : Int)) = true := beq_iff_eq.2 (by omega)
              have hd2 : ((k : Int) == (k : Int)) = true := beq_iff_eq.2 rfl
              go_wp2_with (first
                | (go_at_call 20; refine (C1.out _).mono ?_; rintro e w1 ⟨rfl, rfl⟩)
                | (go_at_call 30; refine (C2.out _).mono ?_; rintro e w1 ⟨rfl, rfl⟩)
                | (go_at_call 21; refine (C3.out _).mono ?_; rintro e w1 ⟨rfl, rfl⟩))
              try rw [Exit.noGoto_ret]
              go_ret3
              rw [HE.out]
              exact ⟨rfl, HQ.out⟩
          · skip
            have C1 : Hid (∀ W, Calls Tryd.prog 20 #[.string s, .int .i64 (k : Int)] W fun e W' => e = .returned (.tuple #[.int .i64 3, .func (.func 30) #[.string s] #[]]) ∧ W = W') := fun W => by
              have := begins_any s k W hlt
              simp only [kindC, endC, hl, hf, Bool.false_eq_true, if_false] at this
              exact this
            have C2 : Hid (∀ W, Calls Tryd.prog 30 #[.string s, .int .i64 (k : Int)] W fun e W' => e = .returned (.int .i64 ((k + g : Nat) : Int)) ∧ W = W') := fun W => by
              have := signEnd_any s k W hlt (by omega)
              have e : goE s k s[k] = signE (from_ s k) := by simp only [goE, hl, hf, Bool.false_eq_true, if_false]
              rw [← e, hg] at this
              exact this
            have C3 : Hid (∀ W, Calls Tryd.prog 21 #[.int .u8 (s[k].toNat : Int)] W fun e W' => e = .returned (.bool true) ∧ W = W') := fun W => by
              have := isBlank_any (s[k].toNat : Int) W
              have e : blankI (s[k].toNat : Int) = blank s[k] := rfl
              rw [e, hb] at this
              exact this
            have HM' : Hid (Mid s l o (k + 1) n) := by
              obtain ⟨⟨m, e1, e2⟩, e3⟩ := HM.out
              exact ⟨⟨m, by rw [← step_blank s k hlt hb]; exact e1, e2⟩, by omega⟩
            clear hl hf hb hg
            go_wp2_with (first
              | (go_at_call 20; refine (C1.out _).mono ?_; rintro e w1 ⟨rfl, rfl⟩)
              | (go_at_call 30; refine (C2.out _).mono ?_; rintro e w1 ⟨rfl, rfl⟩)
              | (go_at_call 21; refine (C3.out _).mono ?_; rintro e w1 ⟨rfl, rfl⟩))
            go_roundw
            case rel => exact ⟨k + 1, n, v, by omega, by go_num, rfl, HM', HO, HQ⟩
            case measure => simp [intOf]; omega
        · have hb : blank s[k] = false := by
            cases hb : blank s[k]
            · rfl
            · rw [(blank_not hb).1] at hf; cases hf
          by_cases h0 : 0 < g
          · skip
            have C1 : Hid (∀ W, Calls Tryd.prog 20 #[.string s, .int .i64 (k : Int)] W fun e W' => e = .returned (.tuple #[.int .i64 2, .func (.func 23) #[.string s] #[]]) ∧ W = W') := fun W => by
              have := begins_any s k W hlt
              simp only [kindC, endC, hl, hf, Bool.false_eq_true, if_false, if_true] at this
              exact this
            have C2 : Hid (∀ W, Calls Tryd.prog 23 #[.string s, .int .i64 (k : Int)] W fun e W' => e = .returned (.int .i64 ((k + g : Nat) : Int)) ∧ W = W') := fun W => by
              have := numberEnd_any s k W hlt (by unfold maxLen; omega)
              have e : goE s k s[k] = numE s k := by simp only [goE, hl, hf, Bool.false_eq_true, if_false, if_true]
              rw [← e, hg] at this
              exact this
            have C3 : Hid (∀ W, Calls Tryd.prog 21 #[.int .u8 (s[k].toNat : Int)] W fun e W' => e = .returned (.bool false) ∧ W = W') := fun W => by
              have := isBlank_any (s[k].toNat : Int) W
              have e : blankI (s[k].toNat : Int) = blank s[k] := rfl
              rw [e, hb] at this
              exact this
            obtain ⟨ht, hle⟩ := step_tok s k hlt g hg h0 hb
            have HM' : Hid (Mid s l o (k + g) (n ++ [⟨2, (s.extract k (k + g)).data.toList, k⟩])) := by
              obtain ⟨⟨m, e1, e2⟩, e3⟩ := HM.out
              have e4 : (kindC s[k]).toNat = 2 := by simp only [kindC, hl, hf, Bool.false_eq_true, if_false, if_true]; rfl
              rw [ht, e4] at e1
              injection e1 with e1 e5
              exact ⟨⟨(lx (from_ s (k + g)) (k + g)).1, by rw [← e5], by rw [e2, ← e1]; simp⟩, by simp; omega⟩
            have hfew := HM.out.few
            have hd : ((k : Int) + (g : Int) == (k : Int)) = false := beq_eq_false_iff_ne.2 (by omega)
            have HC := cut_any s k g hle
            clear hl hf hb hg ht
            have HbE : Hid (∀ W : World, Src (W.alloc (Obj.cells #[.int .i64 2, .string (s.extract k (k + g)), .int .i64 (k : Int)] 37)) (some ⟨W.heap.size, 0, none⟩) [.int .i64 2, .string (s.extract k (k + g)), .int .i64 (k : Int)]) := fun W => src_alloc W _ _ _
            go_wp2_with (first
              | (go_at_call 20; refine (C1.out _).mono ?_; rintro e w1 ⟨rfl, rfl⟩)
              | (go_at_call 23; refine (C2.out _).mono ?_; rintro e w1 ⟨rfl, rfl⟩)
              | (go_at_call 21; refine (C3.out _).mono ?_; rintro e w1 ⟨rfl, rfl⟩)
              | (at_builtin; refine wpList_append_src _ rfl (.tmp 26) (.tmp 34) _ rfl w.heap.size 37 i0 _ 3 32 Tryd.underlying23 Hi.out Hz0.out Hz1.out Hz2.out rfl (by omega) v n.length (cellsT n) rfl (row_kept HO.out ((Q.refl wr).alloc _) (Nat.le_refl _)) (some ⟨wr.heap.size, 0, none⟩) 1 1 [.int .i64 2, .string (s.extract k (k + g)), .int .i64 (k : Int)] rfl rfl (HbE.out wr) (by simp [Value.oneCell']) (by unfold maxLen; omega) (by omega) ((HQ.out.alloc _).size) ?_; intro v' w' own' gr' _; have Own := Lib.hid own'; have HQ' : Hid (Q w w') := Below.grown (HQ.out.alloc _) gr' ((HQ.out.alloc _).size) (fun i e => (HO.out.lt i e).1); clear own' gr'))
            go_roundw
            case rel => exact ⟨k + g, _, v', by omega, by go_num, rfl, HM', by rw [cellsT_append, List.length_append, cellsT_single, bs_back]; exact Own, HQ'⟩
            case measure => simp [intOf]; omega
          · obtain rfl : g = 0 := by omega
            have C1 : Hid (∀ W, Calls Tryd.prog 20 #[.string s, .int .i64 (k : Int)] W fun e W' => e = .returned (.tuple #[.int .i64 2, .func (.func 23) #[.string s] #[]]) ∧ W = W') := fun W => by
              have := begins_any s k W hlt
              simp only [kindC, endC, hl, hf, Bool.false_eq_true, if_false, if_true] at this
              exact this
            have C2 : Hid (∀ W, Calls Tryd.prog 23 #[.string s, .int .i64 (k : Int)] W fun e W' => e = .returned (.int .i64 ((k + 0 : Nat) : Int)) ∧ W = W') := fun W => by
              have := numberEnd_any s k W hlt (by unfold maxLen; omega)
              have e : goE s k s[k] = numE s k := by simp only [goE, hl, hf, Bool.false_eq_true, if_false, if_true]
              rw [← e, hg] at this
              exact this
            have C3 : Hid (∀ W, Calls Tryd.prog 21 #[.int .u8 (s[k].toNat : Int)] W fun e W' => e = .returned (.bool false) ∧ W = W') := fun W => by
              have := isBlank_any (s[k].toNat : Int) W
              have e : blankI (s[k].toNat : Int) = blank s[k] := rfl
              rw [e, hb] at this
              exact this
            have HE : Hid (o = some k) := by
              obtain ⟨⟨m, e1, e2⟩, e3⟩ := HM.out
              rw [step_none s k hlt hg hb] at e1
              injection e1 with _ e1
              exact e1.symm
            clear hl hf hb hg
            have hd : ((k : Int) + ((0 : Nat) : Int) == (k : Int)) = true := beq_iff_eq.2 (by omega)
            have hd2 : ((k : Int) == (k : Int)) = true := beq_iff_eq.2 rfl
            go_wp2_with (first
              | (go_at_call 20; refine (C1.out _).mono ?_; rintro e w1 ⟨rfl, rfl⟩)
              | (go_at_call 23; refine (C2.out _).mono ?_; rintro e w1 ⟨rfl, rfl⟩)
              | (go_at_call 21; refine (C3.out _).mono ?_; rintro e w1 ⟨rfl, rfl⟩))
            try rw [Exit.noGoto_ret]
            go_ret3
            rw [HE.out]
            exact ⟨rfl, HQ.out⟩
      · have hb : blank s[k] = false := by
          cases hb : blank s[k]
          · rfl
          · rw [(blank_not hb).2.2.1] at hl; cases hl
        have h0 : 0 < g := by
          rw [← hg]; unfold goE; rw [if_pos hl, (name_len s k hlt hl).2]; omega
        have C1 : Hid (∀ W, Calls Tryd.prog 20 #[.string s, .int .i64 (k : Int)] W fun e W' => e = .returned (.tuple #[.int .i64 1, .func (.func 28) #[.string s] #[]]) ∧ W = W') := fun W => by
          have := begins_any s k W hlt
          simp only [kindC, endC, hl, if_true] at this
          exact this
        have C2 : Hid (∀ W, Calls Tryd.prog 28 #[.string s, .int .i64 (k : Int)] W fun e W' => e = .returned (.int .i64 ((k + g : Nat) : Int)) ∧ W = W') := fun W => by
          have := nameEnd_any s k W (by omega) (by unfold maxLen; omega)
          have e : goE s k s[k] = run_ goes s k := by simp only [goE, hl, if_true]
          rw [← e, hg] at this
          exact this
        have C3 : Hid (∀ W, Calls Tryd.prog 21 #[.int .u8 (s[k].toNat : Int)] W fun e W' => e = .returned (.bool false) ∧ W = W') := fun W => by
          have := isBlank_any (s[k].toNat : Int) W
          have e : blankI (s[k].toNat : Int) = blank s[k] := rfl
          rw [e, hb] at this
          exact this
        obtain ⟨ht, hle⟩ := step_tok s k hlt g hg h0 hb
        have HM' : Hid (Mid s l o (k + g) (n ++ [⟨1, (s.extract k (k + g)).data.toList, k⟩])) := by
          obtain ⟨⟨m, e1, e2⟩, e3⟩ := HM.out
          have e4 : (kindC s[k]).toNat = 1 := by simp only [kindC, hl, if_true]; rfl
          rw [ht, e4] at e1
          injection e1 with e1 e5
          exact ⟨⟨(lx (from_ s (k + g)) (k + g)).1, by rw [← e5], by rw [e2, ← e1]; simp⟩, by simp; omega⟩
        have hfew := HM.out.few
        have hd : ((k : Int) + (g : Int) == (k : Int)) = false := beq_eq_false_iff_ne.2 (by omega)
        have HC := cut_any s k g hle
        clear hl hb hg ht
        have HbE : Hid (∀ W : World, Src (W.alloc (Obj.cells #[.int .i64 1, .string (s.extract k (k + g)), .int .i64 (k : Int)] 37)) (some ⟨W.heap.size, 0, none⟩) [.int .i64 1, .string (s.extract k (k + g)), .int .i64 (k : Int)]) := fun W => src_alloc W _ _ _
        go_wp2_with (first
          | (go_at_call 20; refine (C1.out _).mono ?_; rintro e w1 ⟨rfl, rfl⟩)
          | (go_at_call 28; refine (C2.out _).mono ?_; rintro e w1 ⟨rfl, rfl⟩)
          | (go_at_call 21; refine (C3.out _).mono ?_; rintro e w1 ⟨rfl, rfl⟩)
          | (at_builtin; refine wpList_append_src _ rfl (.tmp 26) (.tmp 34) _ rfl w.heap.size 37 i0 _ 3 32 Tryd.underlying23 Hi.out Hz0.out Hz1.out Hz2.out rfl (by omega) v n.length (cellsT n) rfl (row_kept HO.out ((Q.refl wr).alloc _) (Nat.le_refl _)) (some ⟨wr.heap.size, 0, none⟩) 1 1 [.int .i64 1, .string (s.extract k (k + g)), .int .i64 (k : Int)] rfl rfl (HbE.out wr) (by simp [Value.oneCell']) (by unfold maxLen; omega) (by omega) ((HQ.out.alloc _).size) ?_; intro v' w' own' gr' _; have Own := Lib.hid own'; have HQ' : Hid (Q w w') := Below.grown (HQ.out.alloc _) gr' ((HQ.out.alloc _).size) (fun i e => (HO.out.lt i e).1); clear own' gr'))
        go_roundw
        case rel => exact ⟨k + g, _, v', by omega, by go_num, rfl, HM', by rw [cellsT_append, List.length_append, cellsT_single, bs_back]; exact Own, HQ'⟩
        case measure => simp [intOf]; omega
    · have HE : Hid (o = none ∧ l = n) := by
        obtain ⟨⟨m, e1, e2⟩, e3⟩ := HM.out
        rw [from_end s k (by omega), lx_nil] at e1
        injection e1 with e1 e4
        subst e1
        exact ⟨e4.symm, by simpa using e2⟩
      obtain ⟨A, c, rfl, hc, hR⟩ := own_read HO.out
      have HRd := Lib.hid hR
      clear hR
      go_wp2_with fail
      try rw [Exit.noGoto_ret]
      go_ret3
      rw [HE.out.1, HE.out.2]
      exact ⟨A, c, rfl, hc, HRd.out, HQ.out⟩
end Go.Proofs.YtanbhfhhomopfaaDoor.Lx
