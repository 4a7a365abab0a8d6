/-
  LexBlanks holds: blanks between tokens count for nothing but where these begin; blanks alone are no token. No conditions.
-/
import Derived.Test.YtanbhfhhomopfaaDoorLexQ
import Derived.Test.YtanbhfhhomopfaaDoorLexR
import Derived.Test.YtanbhfhhomopfaaDoorLaid
import Derived.OpenShut
import Derived.Deep.DeepCutAuto
namespace Go.Proofs.YtanbhfhhomopfaaDoor.lexBlanks
open Go.ChangeShapes Go.WideShapes Go.ChangeAt Go.RowKit Kit Rw Lx
open Go.ChangeMaps (open_string shut_string)

theorem conv (u : World) (b : UInt8) : (convert 40 9 (.slice (some ⟨u.heap.size, 0, none⟩) 1 1)).run Tryd.prog (u.alloc (.cells #[.int .u8 (b.toNat : Int)] 5)) = .ok (.string ⟨#[b]⟩) (u.alloc (.cells #[.int .u8 (b.toNat : Int)] 5)) :=
  run_convert_bytes_back (P := Tryd.prog) _ 40 9 5 ⟨u.heap.size, 0, none⟩ 1 [b] Tryd.underlying40 Tryd.underlying5 Tryd.underlying9 (by
    intro j hj
    simp at hj
    subst hj
    rw [add_zero_head, cell_of_row _ _ _ _ _ _ (heap_alloc_new u _)]
    rfl)
theorem blk_at (k : Nat) (u : World) : (Instr.index 9 (.string ⟨#[32, 9, 10]⟩) (.int .i64 ((k : Int) % 3))).run Tryd.prog u = .ok (.int .u8 ((blk k).toNat : Int)) u := by
  have h : k % 3 = 0 ∨ k % 3 = 1 ∨ k % 3 = 2 := by omega
  rcases h with h | h | h
  · rw [show (k : Int) % 3 = (0 : Nat) by omega, show blk k = 32 by unfold blk; rw [if_pos h]]
    exact idx ⟨#[32, 9, 10]⟩ 0 _ rfl 32 [9, 10] rfl u
  · rw [show (k : Int) % 3 = (1 : Nat) by omega, show blk k = 9 by unfold blk; rw [if_neg (by omega), if_pos h]]
    exact idx ⟨#[32, 9, 10]⟩ 1 _ rfl 9 [10] rfl u
  · rw [show (k : Int) % 3 = (2 : Nat) by omega, show blk k = 10 by unfold blk; rw [if_neg (by omega), if_neg (by omega)]]
    exact idx ⟨#[32, 9, 10]⟩ 2 _ rfl 10 [] rfl u

set_option maxRecDepth 100000 in
set_option maxHeartbeats 4000000 in
theorem walk (s : ByteArray) (n : Nat) (w : World) (hn : n ≤ 255) : Calls Tryd.prog 9 #[.string s, .int .u8 (n : Int)] w fun e w' => e = .returned (.bool true) ∧ Q w w' := by
  by_cases h5 : 500 < s.size
  · have d5 : decide (500 < (s.size : Int)) = true := decide_eq_true (by omega)
    go_enter Tryd.func9, Tryd.ntmps9
    go_wp2_with fail
    refine (shown_any _).mono ?_
    rintro e w1 ⟨rfl, q1⟩
    go_wp2_with fail
    go_ret
    exact ⟨rfl, q1⟩
  · have d5 : decide (500 < (s.size : Int)) = false := decide_eq_false (by omega)
    go_enter Tryd.func9, Tryd.ntmps9
    go_wp2_with fail
    refine (shown_any _).mono ?_
    rintro e w1 ⟨rfl, q1⟩
    go_wp2_with fail
    go_loopw [6, 7] (fun t i wr => ∃ k : Nat, k ≤ n % 9 ∧ i = .int .i64 k ∧ t = .string (bs (blks k)) ∧ Hid (Q w wr)) (fun _ i _ => n % 9 - (intOf i).toNat)
    case atStart => exact ⟨0, Nat.zero_le _, rfl, rfl, Lib.hid q1⟩
    case round =>
      obtain ⟨k, hk, rfl, rfl, HQ⟩ := hrel
      by_cases hlt : k < n % 9
      · have d0 : decide ((k : Int) < (n : Int) % 9) = true := decide_eq_true (by omega)
        have hix := blk_at k
        have hcv := conv wr (blk k)
        have hadd : ∀ u : World, (Op.stringOp .add (bs (blks k)) (⟨#[blk k]⟩ : ByteArray)).run Tryd.prog u = .ok (.string (bs (blks (k + 1)))) u := fun u => by
          have e : bs (blks k) ++ (⟨#[blk k]⟩ : ByteArray) = bs (blks (k + 1)) := bs_app _ _
          rw [← e]
          exact run_string_add_sum (P := Tryd.prog) u _ _ (by rw [bs_size, blks_len]; show k + 1 ≤ _; omega)
        go_wp2_with fail
        go_roundw
        case rel => exact ⟨k + 1, by omega, by go_num, rfl, Lib.hid (HQ.out.alloc _)⟩
        case measure => simp [intOf]; omega
      · have d0 : decide ((k : Int) < (n : Int) % 9) = false := decide_eq_false (by omega)
        have hb := blks_blank k
        have hbl := blks_len k
        have hk8 : k ≤ 8 := by omega
        have hlx := lx_between (blks k) s.data.toList hb
        have hlo := lx_only (blks k) 0 hb
        generalize blks k = b at *
        have hsz : (bs b).size = b.length := bs_size b
        have a1 : ∀ u : World, (Op.stringOp .add (bs b) s).run Tryd.prog u = .ok (.string (bs (b ++ s.data.toList))) u := fun u => by
          rw [← bs_app]
          exact run_string_add_sum (P := Tryd.prog) u _ _ (by rw [bs_size]; omega)
        have a2 : ∀ u : World, (Op.stringOp .add (bs (b ++ s.data.toList)) (bs b)).run Tryd.prog u = .ok (.string (bs (b ++ s.data.toList ++ b))) u := fun u => by
          have e : bs (b ++ s.data.toList) ++ bs b = bs (b ++ s.data.toList ++ b) := by rw [bs_app, bs_list]
          rw [← e]
          exact run_string_add_sum (P := Tryd.prog) u _ _ (by rw [bs_size, bs_size]; simp; omega)
        obtain ⟨l, o, hl⟩ : ∃ l o, lx s.data.toList 0 = (l, o) := ⟨_, _, rfl⟩
        rw [hl, ← hsz] at hlx
        have CT := Lib.hid (fun W : World => toks_any s l o W (by omega) hl)
        have CM := Lib.hid (fun W : World => toks_any (bs (b ++ s.data.toList ++ b)) (l.map (Tk.shift (bs b).size)) (o.map (· + (bs b).size)) W (by rw [bs_size]; simp; omega) (by rw [bs_list]; exact hlx))
        have CO := Lib.hid (fun W : World => toks_any (bs b) [] none W (by omega) (by rw [bs_list]; exact hlo))
        have CO : Hid (∀ W : World, Calls Tryd.prog 11 #[.string (bs b)] W fun e W' => ∃ A c, e = .returned (.tuple #[.slice A 0 c, .int .i64 0, .int .i64 0]) ∧ 0 ≤ c ∧ Rds W' W'.heap.size A (cellsT []) ∧ Q W W') := CO.out
        generalize b ++ s.data.toList ++ b = all at *
        clear hb hlo hlx hlt
        have hB : (bs b).size ≤ 8 := by omega
        clear hsz hbl
        cases o with
        | some q =>
          have CT : Hid (∀ W : World, Calls Tryd.prog 11 #[.string s] W fun e W' => e = .returned (.tuple #[.slice none 0 0, .int .i64 (q : Int), .int .i64 2]) ∧ Q W W') := CT.out
          have CM : Hid (∀ W : World, Calls Tryd.prog 11 #[.string (bs all)] W fun e W' => e = .returned (.tuple #[.slice none 0 0, .int .i64 ((q : Int) + ((bs b).size : Int)), .int .i64 2]) ∧ Q W W') := fun W => by
            exact CM.out W
          have hq : q ≤ 500 := by
            have := lx_err s.data.toList.length s.data.toList 0 q (Nat.le_refl _) (by rw [hl])
            have e : s.data.toList.length = s.size := by simp
            omega
          clear hl
          generalize bs b = B at *
          generalize bs all = M at *
          go_wp2_with fail
          refine (CT.out _).mono ?_
          rintro e w2 ⟨rfl, q2⟩
          go_wp2_with fail
          refine (CM.out _).mono ?_
          rintro e w3 ⟨rfl, q3⟩
          go_wp2_with fail
          refine (CO.out _).mono ?_
          rintro e w4 ⟨A, c, rfl, _, _, q4⟩
          have p4 := Lib.hid (((HQ.out.trans q2).trans q3).trans q4)
          clear q1 q2 q3 q4
          have hne : ((q : Int) + (B.size : Int) != (q : Int) + (B.size : Int)) = false := by simp
          go_wp2_with fail
          go_loopw [17] (fun i wr => i = .int .i64 0 ∧ Hid (Q w wr)) (fun _ _ => 0)
          case atStart => exact ⟨rfl, p4⟩
          case round =>
            clear HQ p4
            obtain ⟨rfl, HQ⟩ := hrel
            go_wp2_with fail
            go_ret
            exact ⟨rfl, HQ.out⟩
        | none =>
          have CT : Hid (∀ W : World, Calls Tryd.prog 11 #[.string s] W fun e W' => ∃ A c, e = .returned (.tuple #[.slice A l.length c, .int .i64 0, .int .i64 0]) ∧ l.length ≤ c ∧ Rds W' W'.heap.size A (cellsT l) ∧ Q W W') := CT.out
          have CM : Hid (∀ W : World, Calls Tryd.prog 11 #[.string (bs all)] W fun e W' => ∃ A c, e = .returned (.tuple #[.slice A l.length c, .int .i64 0, .int .i64 0]) ∧ l.length ≤ c ∧ Rds W' W'.heap.size A (cellsT (l.map (Tk.shift (bs b).size))) ∧ Q W W') := fun W => by
            refine (CM.out W).mono fun e W' h => ?_
            obtain ⟨A, c, h1, h2, h3, h4⟩ := h
            rw [List.length_map] at h1 h2
            exact ⟨A, c, h1, h2, h3, h4⟩
          have HX := Lib.hid hl
          have hlen : l.length ≤ 500 := by
            have h9 := lx_few s.data.toList.length s.data.toList 0 (Nat.le_refl _)
            rw [hl] at h9
            have h9 : l.length ≤ s.data.toList.length := h9
            have e : s.data.toList.length = s.size := by simp
            omega
          clear hl
          generalize bs b = B at *
          generalize bs all = M at *
          go_wp2_with fail
          refine (CT.out _).mono ?_
          rintro e w2 ⟨A2, c2, rfl, _, hR2, q2⟩
          have HR2 := Lib.hid hR2
          clear hR2
          go_wp2_with fail
          refine (CM.out _).mono ?_
          rintro e w3 ⟨A3, c3, rfl, _, hR3, q3⟩
          have HR3 := Lib.hid hR3
          clear hR3
          go_wp2_with fail
          refine (CO.out _).mono ?_
          rintro e w4 ⟨A, c, rfl, _, _, q4⟩
          have p4 := Lib.hid (((HQ.out.trans q2).trans q3).trans q4)
          have HS2 := Lib.hid (HR2.out.q (q3.trans q4))
          have HS3 := Lib.hid (HR3.out.q q4)
          clear q1 q2 q3 q4 HR2 HR3
          have hne : ((l.length : Int) != (l.length : Int)) = false := by simp
          go_wp2_with fail
          go_loopw [17] (fun i wr => ∃ k : Nat, k ≤ l.length ∧ i = .int .i64 k ∧ Hid (Q w4 wr)) (fun i _ => l.length - (intOf i).toNat)
          case atStart => exact ⟨0, Nat.zero_le _, rfl, Lib.hid (Q.refl _)⟩
          case round =>
            clear HQ hne hk
            obtain ⟨k, hk, rfl, HQ⟩ := hrel
            by_cases hlt : k < l.length
            · obtain ⟨ad, rfl, hb, c0, c1, c2⟩ := tok_at (HS2.out.q HQ.out) (show k < (l.map tg).length by rw [List.length_map]; exact hlt)
              obtain ⟨bd, rfl, hb', y0, y1, y2⟩ := tok_at (HS3.out.q HQ.out) (show k < ((l.map (Tk.shift B.size)).map tg).length by rw [List.length_map, List.length_map]; exact hlt)
              rw [List.getElem_map] at c0 c1 c2
              rw [List.getElem_map, List.getElem_map] at y0 y1 y2
              obtain ⟨C, o, H⟩ := one_tok s l none HX.out l[k] (List.getElem_mem hlt)
              have g3 := H.fits
              clear H
              replace c0 : wr.cell? (ad.add (k * 3)) = some (.int .i64 (l[k].kind : Int)) := c0
              replace c1 : wr.cell? ⟨(ad.add (k * 3)).block, (ad.add (k * 3)).off + 1, none⟩ = some (.string (bs l[k].text)) := c1
              replace c2 : wr.cell? ⟨(ad.add (k * 3)).block, (ad.add (k * 3)).off + 2, none⟩ = some (.int .i64 (l[k].pos : Int)) := c2
              replace y0 : wr.cell? (bd.add (k * 3)) = some (.int .i64 (l[k].kind : Int)) := y0
              replace y1 : wr.cell? ⟨(bd.add (k * 3)).block, (bd.add (k * 3)).off + 1, none⟩ = some (.string (bs l[k].text)) := y1
              replace y2 : wr.cell? ⟨(bd.add (k * 3)).block, (bd.add (k * 3)).off + 2, none⟩ = some (.int .i64 ((l[k].pos : Int) + (B.size : Int))) := by
                rw [← Int.natCast_add]; exact y2
              generalize bs l[k].text = T at *
              generalize l[k].kind = K at *
              generalize l[k].pos = P at *
              have hw : IntKind.i64.wrap ((P : Int) + (B.size : Int)) = (P : Int) + (B.size : Int) := IntWalk.i64_in _ (by omega)
              have hw2 : wrap64 ((P : Int) + (B.size : Int)) = (P : Int) + (B.size : Int) := by unfold wrap64; omega
              go_wp2_with fail
              go_quiet (fail)
              go_wp2_with fail
              go_roundw
              case rel => exact ⟨k + 1, by omega, by go_num, Lib.hid (HQ.out.drewN _)⟩
              case measure => simp [intOf]; omega
            · go_wp2_with fail
              go_ret
              exact ⟨rfl, p4.out.trans HQ.out⟩

theorem reads (os : Os) {H : Type} (enc : TypeId × Value → H) : ∃ places, DataW.whole enc Tryd.prog ((laidWorld os).forCall (fun _ _ => 0) ⟨#[], #[.string .empty, .int .u8 0], []⟩).memory Tryd.f9.params.toList Rows.lexBlanksSpec.vars false (#[.string .empty, .int .u8 0] : Array Value).toList 8 = some ([.lit (.string []), .lit (.int .u8 0)], [], places) :=
  ⟨[], by kernel_rfl⟩

set_option maxRecDepth 100000 in
theorem contract (H : Type) (enc : TypeId × Value → H) (W : World) (base : Nat) (args : Array Value) (ds gs : List (DataW H)) (before : List MemPlace)
    (hval : ∀ (j : Nat) t v, Tryd.f9.params[j]? = some t → args[j]? = some v → Value.okWide Tryd.prog W .any base t v)
    (hW : DataW.Whole enc Tryd.prog Tryd.f9.params.toList Rows.lexBlanksSpec.vars false W args.toList ds gs before)
    (hsz0 : (DataW.weightsEach Tryd.prog (Tryd.f9.params.toList ++ Rows.lexBlanksSpec.plain.varTypes Tryd.prog) (ds ++ gs)).all (· ≤ reachBytes) = true) :
    Calls Tryd.prog 9 args W fun e W' => ∃ v, e = .returned v ∧ Rows.lexBlanksSpec.post enc Tryd.prog Tryd.f9 false true false false W args v W' := by
  have hW' := hW
  obtain ⟨p, q, hA0, hV, rfl, hfz, hnd⟩ := hW
  have hA : DataW.TrodAll enc Tryd.prog W 0 (fun _ => true) true Tryd.f9.params.toList args.toList ds p := hA0
  rw [Tryd.params9] at hA hval
  obtain ⟨v0, vs0, d0, ds0, p0, q0, hargs, rfl, rfl, h0, r0⟩ := trodAll_cons hA
  obtain ⟨v1, vs1, d1, ds1, p1, q1, rfl, rfl, rfl, h1, r1⟩ := trodAll_cons r0
  obtain ⟨rfl, rfl, rfl⟩ := trodAll_nil r1
  obtain rfl : args = #[v0, v1] := by cases args; simp_all
  obtain ⟨rfl, rfl⟩ := trodVars_none hV
  clear hsz0
  obtain ⟨s, rfl, rfl, rfl, hmax⟩ := open_string Tryd.underlying9 (hval 0 9 v0 rfl rfl) h0
  obtain ⟨a1, rfl, rfl, rfl, w1⟩ := open_int Tryd.underlying5 (hval 1 5 v1 rfl rfl) h1
  have hx : 0 ≤ a1 ∧ a1 ≤ 255 := by simpa [Lit.wf, IntKind.min, IntKind.max, IntKind.signed, IntKind.bits] using w1
  obtain ⟨a, rfl⟩ : ∃ a : Nat, a1 = (a : Int) := ⟨a1.toNat, by omega⟩
  clear hA0
  refine (walk s a W (by omega)).mono fun e W' ⟨he, hg⟩ => ?_
  subst he
  exact ⟨_, rfl, post_law laid (by rw [Tryd.params9]; decide +kernel) rfl rfl (by kernel_rfl) Tryd.underlying4 hW' hg⟩

set_option maxRecDepth 100000 in
theorem lifted (os : Os) (started : os.Started) (H : Type) (enc : TypeId × Value → H) (F : Stop.Interp) :
    ReturnsInHanded {} Tryd.checked os 9 .any ((OpenSpec.ofChange Rows.lexBlanksSpec).preRow enc Tryd.prog Tryd.f9 Rows.lexBlanksRow.domain false Rows.lexBlanksRow.laid) (((OpenSpec.ofChange Rows.lexBlanksSpec).at F).post enc Tryd.prog Tryd.f9 false true false false) := by
  obtain ⟨places, hx⟩ := reads os enc
  refine returnsInHanded_of_row (C := Tryd.checked) (s := OpenSpec.ofChange Rows.lexBlanksSpec) own started (by kernel_rfl) Tryd.func9
    (witness_row_at (enc := enc) (C := Tryd.checked) false (laidWorld os) #[.string .empty, .int .u8 0] rfl (laid_vars os _) (by kernel_rfl) (by kernel_rfl)
      (OpenSpec.preRow_of_cond 8 hx (by kernel_rfl) (fun k hk => by cases hk) (by kernel_rfl) (laid_met os _))) ?_
  intro W base args ds gs before hval hW _ _ hsz _ _ _
  exact contract H enc W base args ds gs before hval hW hsz

theorem said : Rows.LexBlanksSaid :=
  OpenClaim.holds_of_cond 9 Tryd.f9 rfl rfl rfl rfl rfl rfl rfl ⟨rfl, rfl, rfl, rfl, rfl⟩ rfl rfl rfl rfl rfl (by kernel_rfl) Tryd.func9 (by kernel_rfl)
    (of_decide_eq_true (by kernel_rfl)) (by unfold Func.isWrapper; first | (rw [if_pos (by decide +kernel)]; kernel_rfl) | (rw [if_neg (by decide +kernel)]; exact ⟨rfl, rfl⟩))
    (fun os started H enc _ F => by rw [OpenClaim.pre_eq_preRow]; exact lifted os started H enc F)

theorem plain (f : FuncId) (fn : Func) (hf : Tryd.pinned.checked.prog.funcNamed "tammy/tammylaw06.LexBlanks" = some f) (hfn : Tryd.pinned.checked.prog.funcs[f]? = some fn) :
    true = Tryd.pinned.checked.prog.looks [] ∧ ∀ (j : Nat) t, fn.params[j]? = some t → Tryd.pinned.checked.prog.wantsStandIn t = false := by
  obtain rfl : f = 9 := Option.some.inj ((show Tryd.prog.funcNamed "tammy/tammylaw06.LexBlanks" = some 9 by kernel_rfl).symm.trans hf) |>.symm
  obtain rfl : fn = Tryd.f9 := (Option.some.inj (Tryd.func9.symm.trans hfn)).symm
  refine ⟨by kernel_rfl, fun j t ht => ?_⟩
  rw [Tryd.params9] at ht
  have hm := Array.mem_of_getElem? ht
  simp only [List.mem_toArray, List.mem_cons, List.not_mem_nil, or_false] at hm
  rcases hm with rfl | rfl
  · exact (show Tryd.prog.wantsStandIn 9 = false by kernel_rfl)
  · exact (show Tryd.prog.wantsStandIn 5 = false by kernel_rfl)

/-- THE STATEMENT: the tied card -/
theorem card : Rows.LexBlanksCardSaid :=
  Claim7.holds_tied_plain_at .later [] _ _ _ _ said (fun _ h => by cases h) (by kernel_rfl) (fun _ h => by cases h) lexBlanks_row_tie rfl ⟨rfl, rfl⟩ (by kernel_rfl) rfl plain (by kernel_rfl)
end Go.Proofs.YtanbhfhhomopfaaDoor.lexBlanks
