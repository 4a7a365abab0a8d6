/-
  ExprTwo holds: of two expressions with a sign between the first is read whole, then the sign, then the other; with brackets around both they are one. No conditions.
-/
import Derived.Test.YtmbdbmjnibfmgaaDoorExprLaw
import Derived.Test.YtmbdbmjnibfmgaaDoorExprOpen
import Derived.Test.YtmbdbmjnibfmgaaDoorLaid
import Derived.OpenShut
import Derived.RegionTactic
import Derived.Deep.RegionHeld3
import Derived.Deep.DeepCutAuto
namespace Go.Proofs.YtmbdbmjnibfmgaaDoor.exprTwo
open Go.ChangeShapes Go.WideShapes Go.ChangeAt Go.RowKit Kit Rw Ex
open Go.ChangeMaps (open_string shut_string)


/-- two right rows of few bytes -/
structure Both (l m : List Tg) (x y : Ex) : Prop where
  a : RightX l x
  b : RightX m y
  fa : total7 l ≤ 600
  fb : total7 m ≤ 600
theorem br_lx {a : List UInt8} {ts : List TT} (h : Lx1 a ts) : LxA (40 :: (a ++ [41])) (brT ts) := by
  have := (LxA.sign (c := 40) (by decide)).appA (Lx1.appA h (LxA.sign (c := 41) (by decide)) ⟨41, [], rfl, by decide⟩)
  exact this
theorem two_lx {a b : List UInt8} {ts us : List TT} (c : UInt8) (hc : sepB c = true) (h : Lx1 a ts) (k : Lx1 b us) : Lx1 ((((([40] ++ a) ++ [41]) ++ [c]) ++ [40]) ++ b ++ [41]) (brT ts ++ sgT c :: brT us) := by
  have := ((br_lx h).appA ((LxA.sign hc).appA (br_lx k))).one
  simpa using this
theorem run_nil : RunP [] 0 [] [((0, ⟨#[]⟩, 0), ⟨#[]⟩)] 2 0 [] := .err (.over rfl) (by decide)
set_option maxRecDepth 100000 in
set_option maxHeartbeats 4000000 in
theorem long38 (A B : Option Addr) (c c' : Nat) (l m : List Tg) (x y : Ex) (w : World) (hr : Rds w w.heap.size A (cellsG l)) (hr' : Rds w w.heap.size B (cellsG m)) (hl : l.length ≤ 140737488355328) (hl' : m.length ≤ 140737488355328) (hz : ∀ t ∈ l, t.2.1.size ≤ 140737488355328) (hz' : ∀ t ∈ m, t.2.1.size ≤ 140737488355328) (HB : Both l m x y) (hrt : rightB l = true) (hrt' : rightB m = true)
    (hlong : 2000 < (bs (((((([40] ++ x.text) ++ [41]) ++ [38]) ++ [40]) ++ y.text) ++ [41])).size) :
    Calls Tryd.prog 6 #[.slice A l.length c, .slice B m.length c', .bool false] w fun e w' => e = .returned (.bool true) ∧ Q w w' := by
  have HR := Lib.hid hr
  have HR' := Lib.hid hr'
  have CF := Lib.hid (fun (W : World) (q : Q w W) => few7_any A l.length c l W rfl (hr.q q) hl hz)
  have CF' := Lib.hid (fun (W : World) (q : Q w W) => few7_any B m.length c' m W rfl (hr'.q q) hl' hz')
  have CR := Lib.hid (fun (W : World) (q : Q w W) => right7_any A l.length c l W rfl (HR.out.q q) HB.fa)
  have CR' := Lib.hid (fun (W : World) (q : Q w W) => right7_any B m.length c' m W rfl (HR'.out.q q) HB.fb)
  rw [decide_eq_true HB.fa] at CF
  rw [decide_eq_true HB.fb] at CF'
  rw [hrt] at CR
  rw [hrt'] at CR'
  have hta := HB.a.textLen HB.fa
  have htb := HB.b.textLen HB.fb
  have CT : Hid (∀ W : World, Q w W → Calls Tryd.prog 11 #[.slice A l.length c] W fun e w' => e = .returned (.string (bs x.text)) ∧ Q W w') := fun W q => HB.a.text HB.fa A c W (HR.out.q q)
  have CT' : Hid (∀ W : World, Q w W → Calls Tryd.prog 11 #[.slice B m.length c'] W fun e w' => e = .returned (.string (bs y.text)) ∧ Q W w') := fun W q => HB.b.text HB.fb B c' W (HR'.out.q q)
  have HB := Lib.hid HB
  clear hr hz hr' hz' hrt hrt' hl hl'
  have a1 : ∀ u : World, (Op.stringOp .add ⟨#[40]⟩ (bs x.text)).run Tryd.prog u = .ok (.string (bs ([40] ++ x.text))) u := fun u => add_bs [40] x.text u (by simp; omega)
  have a2 : ∀ u : World, (Op.stringOp .add (bs ([40] ++ x.text)) ⟨#[41]⟩).run Tryd.prog u = .ok (.string (bs (([40] ++ x.text) ++ [41]))) u := fun u => add_bs ([40] ++ x.text) [41] u (by simp; omega)
  have a3 : ∀ u : World, (Op.stringOp .add (bs (([40] ++ x.text) ++ [41])) ⟨#[38]⟩).run Tryd.prog u = .ok (.string (bs ((([40] ++ x.text) ++ [41]) ++ [38]))) u := fun u => add_bs (([40] ++ x.text) ++ [41]) [38] u (by simp; omega)
  have a4 : ∀ u : World, (Op.stringOp .add (bs ((([40] ++ x.text) ++ [41]) ++ [38])) ⟨#[40]⟩).run Tryd.prog u = .ok (.string (bs (((([40] ++ x.text) ++ [41]) ++ [38]) ++ [40]))) u := fun u => add_bs ((([40] ++ x.text) ++ [41]) ++ [38]) [40] u (by simp; omega)
  have a5 : ∀ u : World, (Op.stringOp .add (bs (((([40] ++ x.text) ++ [41]) ++ [38]) ++ [40])) (bs y.text)).run Tryd.prog u = .ok (.string (bs ((((([40] ++ x.text) ++ [41]) ++ [38]) ++ [40]) ++ y.text))) u := fun u => add_bs (((([40] ++ x.text) ++ [41]) ++ [38]) ++ [40]) y.text u (by simp; omega)
  have a6 : ∀ u : World, (Op.stringOp .add (bs ((((([40] ++ x.text) ++ [41]) ++ [38]) ++ [40]) ++ y.text)) ⟨#[41]⟩).run Tryd.prog u = .ok (.string (bs (((((([40] ++ x.text) ++ [41]) ++ [38]) ++ [40]) ++ y.text) ++ [41]))) u := fun u => add_bs ((((([40] ++ x.text) ++ [41]) ++ [38]) ++ [40]) ++ y.text) [41] u (by simp; omega)
  have CK := Lib.hid (fun (W : World) (_ : Q w W) => Lx.refToks_full (bs (((((([40] ++ x.text) ++ [41]) ++ [38]) ++ [40]) ++ y.text) ++ [41])) W hlong)
  have CD := Lib.hid (fun (W : World) (_ : Q w W) => read_any none 0 0 [] W 2 0 [] rfl (Rds.nil _ _ _) (by simp) run_nil)
  clear hlong hta htb HB
  generalize bs (((((([40] ++ x.text) ++ [41]) ++ [38]) ++ [40]) ++ y.text) ++ [41]) = s6 at *
  generalize bs ([40] ++ x.text) = s1 at *
  generalize bs (([40] ++ x.text) ++ [41]) = s2 at *
  generalize bs ((([40] ++ x.text) ++ [41]) ++ [38]) = s3 at *
  generalize bs (((([40] ++ x.text) ++ [41]) ++ [38]) ++ [40]) = s4 at *
  generalize bs ((((([40] ++ x.text) ++ [41]) ++ [38]) ++ [40]) ++ y.text) = s5 at *
  generalize bs x.text = ta at *
  generalize bs y.text = tb at *
  go_enter Tryd.func6, Tryd.ntmps6
  go_wp2_with fail
  refine (shown_any _).mono ?_
  rintro e w1 ⟨rfl, q1⟩
  have p1 := Lib.hid q1
  clear q1
  go_wp2_with fail
  refine (CF.out _ p1.out).mono ?_
  rintro e w2 ⟨rfl, q2⟩
  have p2 := Lib.hid (p1.out.trans q2)
  clear q2
  go_wp2_with fail
  refine (CF'.out _ p2.out).mono ?_
  rintro e w3 ⟨rfl, q3⟩
  have p3 := Lib.hid (p2.out.trans q3)
  clear q3
  go_wp2_with fail
  refine (CR.out _ p3.out).mono ?_
  rintro e w4 ⟨rfl, q4⟩
  have p4 := Lib.hid (p3.out.trans q4)
  clear q4
  go_wp2_with fail
  refine (CR'.out _ p4.out).mono ?_
  rintro e w5 ⟨rfl, q5⟩
  have p5 := Lib.hid (p4.out.trans q5)
  clear q5
  go_wp2_with fail
  refine (CT.out _ p5.out).mono ?_
  rintro e w6 ⟨rfl, q6⟩
  have p6 := Lib.hid (p5.out.trans q6)
  clear q6
  go_wp2_with fail
  refine (CT'.out _ p6.out).mono ?_
  rintro e w7 ⟨rfl, q7⟩
  have p7 := Lib.hid (p6.out.trans q7)
  clear q7
  go_wp2_with fail
  refine (CK.out _ p7.out).mono ?_
  rintro e w8 ⟨rfl, q8⟩
  have p8 := Lib.hid (p7.out.trans q8)
  clear q8
  go_wp2_with fail
  refine (CD.out _ p8.out).mono ?_
  rintro e w9 ⟨A9, n9, c9, rfl, rfl, hr9, q9⟩
  have p9 := Lib.hid (p8.out.trans q9)
  clear q9
  go_wp2_with fail
  go_ret
  exact ⟨rfl, p9.out⟩

set_option maxRecDepth 100000 in
set_option maxHeartbeats 4000000 in
theorem short38 (A B : Option Addr) (c c' : Nat) (l m : List Tg) (x y : Ex) (w : World) (hr : Rds w w.heap.size A (cellsG l)) (hr' : Rds w w.heap.size B (cellsG m)) (hl : l.length ≤ 140737488355328) (hl' : m.length ≤ 140737488355328) (hz : ∀ t ∈ l, t.2.1.size ≤ 140737488355328) (hz' : ∀ t ∈ m, t.2.1.size ≤ 140737488355328) (HB : Both l m x y) (hrt : rightB l = true) (hrt' : rightB m = true)
    (hlong : (bs (((((([40] ++ x.text) ++ [41]) ++ [38]) ++ [40]) ++ y.text) ++ [41])).size ≤ 2000) :
    Calls Tryd.prog 6 #[.slice A l.length c, .slice B m.length c', .bool false] w fun e w' => e = .returned (.bool true) ∧ Q w w' := by
  have HR := Lib.hid hr
  have HR' := Lib.hid hr'
  have CF := Lib.hid (fun (W : World) (q : Q w W) => few7_any A l.length c l W rfl (hr.q q) hl hz)
  have CF' := Lib.hid (fun (W : World) (q : Q w W) => few7_any B m.length c' m W rfl (hr'.q q) hl' hz')
  have CR := Lib.hid (fun (W : World) (q : Q w W) => right7_any A l.length c l W rfl (HR.out.q q) HB.fa)
  have CR' := Lib.hid (fun (W : World) (q : Q w W) => right7_any B m.length c' m W rfl (HR'.out.q q) HB.fb)
  rw [decide_eq_true HB.fa] at CF
  rw [decide_eq_true HB.fb] at CF'
  rw [hrt] at CR
  rw [hrt'] at CR'
  have hta := HB.a.textLen HB.fa
  have htb := HB.b.textLen HB.fb
  have CT : Hid (∀ W : World, Q w W → Calls Tryd.prog 11 #[.slice A l.length c] W fun e w' => e = .returned (.string (bs x.text)) ∧ Q W w') := fun W q => HB.a.text HB.fa A c W (HR.out.q q)
  have CT' : Hid (∀ W : World, Q w W → Calls Tryd.prog 11 #[.slice B m.length c'] W fun e w' => e = .returned (.string (bs y.text)) ∧ Q W w') := fun W q => HB.b.text HB.fb B c' W (HR'.out.q q)
  have HB := Lib.hid HB
  clear hr hz hr' hz' hrt hrt' hl hl'
  have ht7 : (bs (((((([40] ++ x.text) ++ [41]) ++ [38]) ++ [40]) ++ y.text) ++ [41])).size = x.text.length + y.text.length + 5 := by simp [bs, ByteArray.size]; omega
  have a1 : ∀ u : World, (Op.stringOp .add ⟨#[40]⟩ (bs x.text)).run Tryd.prog u = .ok (.string (bs ([40] ++ x.text))) u := fun u => add_bs [40] x.text u (by simp; omega)
  have a2 : ∀ u : World, (Op.stringOp .add (bs ([40] ++ x.text)) ⟨#[41]⟩).run Tryd.prog u = .ok (.string (bs (([40] ++ x.text) ++ [41]))) u := fun u => add_bs ([40] ++ x.text) [41] u (by simp; omega)
  have a3 : ∀ u : World, (Op.stringOp .add (bs (([40] ++ x.text) ++ [41])) ⟨#[38]⟩).run Tryd.prog u = .ok (.string (bs ((([40] ++ x.text) ++ [41]) ++ [38]))) u := fun u => add_bs (([40] ++ x.text) ++ [41]) [38] u (by simp; omega)
  have a4 : ∀ u : World, (Op.stringOp .add (bs ((([40] ++ x.text) ++ [41]) ++ [38])) ⟨#[40]⟩).run Tryd.prog u = .ok (.string (bs (((([40] ++ x.text) ++ [41]) ++ [38]) ++ [40]))) u := fun u => add_bs ((([40] ++ x.text) ++ [41]) ++ [38]) [40] u (by simp; omega)
  have a5 : ∀ u : World, (Op.stringOp .add (bs (((([40] ++ x.text) ++ [41]) ++ [38]) ++ [40])) (bs y.text)).run Tryd.prog u = .ok (.string (bs ((((([40] ++ x.text) ++ [41]) ++ [38]) ++ [40]) ++ y.text))) u := fun u => add_bs (((([40] ++ x.text) ++ [41]) ++ [38]) ++ [40]) y.text u (by simp; omega)
  have a6 : ∀ u : World, (Op.stringOp .add (bs ((((([40] ++ x.text) ++ [41]) ++ [38]) ++ [40]) ++ y.text)) ⟨#[41]⟩).run Tryd.prog u = .ok (.string (bs (((((([40] ++ x.text) ++ [41]) ++ [38]) ++ [40]) ++ y.text) ++ [41]))) u := fun u => add_bs ((((([40] ++ x.text) ++ [41]) ++ [38]) ++ [40]) ++ y.text) [41] u (by simp; omega)
  have HLx := Lib.hid (two_lx 38 (by decide) HB.out.a.lx HB.out.b.lx)
  have CK : Hid (∀ W : World, Q w W → Calls Tryd.prog 10 #[.string (bs (((((([40] ++ x.text) ++ [41]) ++ [38]) ++ [40]) ++ y.text) ++ [41]))] W (ToksAt (brT x.toks ++ sgT 38 :: brT y.toks) W)) := fun W _ => toks_of HLx.out (by rw [ht7] at hlong; simp; omega) W
  have hlk := toks_few HLx.out
  have HTw := Lib.hid (fun (toks : List Tg) (ha : At toks 0 (brT x.toks ++ sgT 38 :: brT y.toks)) (hl : toks.length = (brT x.toks ++ sgT 38 :: brT y.toks).length) => two_whole (k := 5) (.inr ⟨rfl, rfl⟩) (RunsAs.tree HB.out.a.wf HB.out.a.mayX) (RunsAs.tree HB.out.b.wf HB.out.b.mayX) ha hl)
  have HLk : Hid ((brT x.toks ++ sgT 38 :: brT y.toks).length ≤ 10000) := by
    rw [ht7] at hlong
    refine Nat.le_trans hlk ?_
    simp
    omega
  rw [HB.out.a.nodes, HB.out.b.nodes] at HTw
  have HFa : Hid (l.length ≤ 600) := Nat.le_trans (total7_ge l) HB.out.fa
  have HFb : Hid (m.length ≤ 600) := Nat.le_trans (total7_ge m) HB.out.fb
  clear hlong ht7 hta htb HLx hlk HB
  generalize bs (((((([40] ++ x.text) ++ [41]) ++ [38]) ++ [40]) ++ y.text) ++ [41]) = s6 at *
  generalize bs ([40] ++ x.text) = s1 at *
  generalize bs (([40] ++ x.text) ++ [41]) = s2 at *
  generalize bs ((([40] ++ x.text) ++ [41]) ++ [38]) = s3 at *
  generalize bs (((([40] ++ x.text) ++ [41]) ++ [38]) ++ [40]) = s4 at *
  generalize bs ((((([40] ++ x.text) ++ [41]) ++ [38]) ++ [40]) ++ y.text) = s5 at *
  generalize bs x.text = ta at *
  generalize bs y.text = tb at *
  generalize brT x.toks ++ sgT 38 :: brT y.toks = tts at *
  go_enter Tryd.func6, Tryd.ntmps6
  go_wp2_with fail
  refine (shown_any _).mono ?_
  rintro e w1 ⟨rfl, q1⟩
  have p1 := Lib.hid q1
  clear q1
  go_wp2_with fail
  refine (CF.out _ p1.out).mono ?_
  rintro e w2 ⟨rfl, q2⟩
  have p2 := Lib.hid (p1.out.trans q2)
  clear q2
  go_wp2_with fail
  refine (CF'.out _ p2.out).mono ?_
  rintro e w3 ⟨rfl, q3⟩
  have p3 := Lib.hid (p2.out.trans q3)
  clear q3
  go_wp2_with fail
  refine (CR.out _ p3.out).mono ?_
  rintro e w4 ⟨rfl, q4⟩
  have p4 := Lib.hid (p3.out.trans q4)
  clear q4
  go_wp2_with fail
  refine (CR'.out _ p4.out).mono ?_
  rintro e w5 ⟨rfl, q5⟩
  have p5 := Lib.hid (p4.out.trans q5)
  clear q5
  go_wp2_with fail
  refine (CT.out _ p5.out).mono ?_
  rintro e w6 ⟨rfl, q6⟩
  have p6 := Lib.hid (p5.out.trans q6)
  clear q6
  go_wp2_with fail
  refine (CT'.out _ p6.out).mono ?_
  rintro e w7 ⟨rfl, q7⟩
  have p7 := Lib.hid (p6.out.trans q7)
  clear q7
  go_wp2_with fail
  refine (CK.out _ p7.out).mono ?_
  rintro e w8 ⟨A8, c8, toks, rfl, hr8, ha8, hl8, q8⟩
  have p8 := Lib.hid (p7.out.trans q8)
  have HR8 := Lib.hid hr8
  have HL8 : Hid (toks.length ≤ 10000) := by rw [hl8]; exact HLk
  rcases HTw.out toks ha8 hl8 with ⟨p', hrun⟩ | hrun
  · have CD := Lib.hid (read_any A8 toks.length c8 toks w8 7 p' [] rfl HR8.out HL8.out hrun)
    clear hrun q8 hr8 ha8 hl8
    go_wp2_with fail
    refine CD.out.mono ?_
    rintro e w9 ⟨A9, n9, c9, rfl, rfl, hr9, q9⟩
    have p9 := Lib.hid (p8.out.trans q9)
    clear q9 hr9
    go_wp2_with fail
    go_ret
    exact ⟨rfl, p9.out⟩
  · have CD := Lib.hid (read_any A8 toks.length c8 toks w8 0 toks.length (l ++ m ++ [(5, ⟨#[]⟩, 2)]) rfl HR8.out HL8.out hrun)
    clear hrun q8 hr8 ha8 hl8
    go_wp2_with fail
    refine CD.out.mono ?_
    rintro e w9 ⟨A9, n9, c9, rfl, hn9, hr9, q9⟩
    have p9 := Lib.hid (p8.out.trans q9)
    have HR9 := Lib.hid hr9
    have HN9 := Lib.hid hn9
    clear q9 hr9 hn9
    obtain ⟨i0, hi, hz0, hz1, hz2⟩ := info_parts nodeInfo
    have Hi := Lib.hid hi
    have Hz0 := Lib.hid hz0
    have Hz1 := Lib.hid hz1
    have Hz2 := Lib.hid hz2
    clear hi hz0 hz1 hz2
    have qE := p9.out.alloc (Obj.cells #[] 38)
    have HSa := Lib.hid (HR.out.q qE).src
    have HE : Hid ((w9.alloc (Obj.cells #[] 38)).ownsRow w9.heap.size 38 3 (.slice (some ⟨w9.heap.size, 0, none⟩) 0 0) 0 []) := own_empty (Nat.le_refl _) (heap_alloc_new w9 _)
    have HQE := Lib.hid qE
    have HQE9 := Lib.hid ((Q.refl w9).alloc (Obj.cells #[] 38))
    have ha6 := HFa.out
    have hb6 := HFb.out
    clear qE
    have HL9 : Hid ([] ++ cellsG l ++ cellsG m ++ [.int .i64 5, .string ⟨#[]⟩, .int .i64 2] = cellsG (l ++ m ++ [(5, ⟨#[]⟩, 2)])) := by simp [Hid, cellsG_append, cellsG]
    generalize hL : l ++ m ++ [(5, ⟨#[]⟩, 2)] = L at *
    have HLL : Hid (L.length = l.length + m.length + 1) := by unfold Hid; rw [← hL]; simp; omega
    clear hL
    go_wp2_with (first
      | (at_builtin; refine wpList_append_src _ rfl (.tmp 73) (.tmp 76) _ rfl w9.heap.size 38 i0 _ 3 32 Tryd.underlying22 Hi.out Hz0.out Hz1.out Hz2.out rfl (by omega) v2 (0 + l.length + m.length) ([] ++ cellsG l ++ cellsG m) rfl HO2.out (some ⟨w11.heap.size, 0, none⟩) 1 1 [.int .i64 5, .string ⟨#[]⟩, .int .i64 2] rfl rfl HSn.out (by simp [Value.oneCell']) (by unfold maxLen; omega) (by omega) HQ11a.out.size ?_; intro v3 w12 own3 gr3 _
         have HQ12 : Hid (Q w9 w12) := Below.grown HQ11a.out gr3 HQ11a.out.size (fun k e => (HO2.out.lt k e).1)
         obtain ⟨A3, c3, rfl, _, hr3⟩ := own_read own3
         rw [HL9.out] at hr3
         have HR3 := Lib.hid hr3
         clear own3 gr3 hr3)
      | (at_builtin; refine wpList_append_src _ rfl (.tmp 71) (.tmp 72) _ rfl w9.heap.size 38 i0 _ 3 32 Tryd.underlying22 Hi.out Hz0.out Hz1.out Hz2.out rfl (by omega) v1 (0 + l.length) ([] ++ cellsG l) rfl HO1.out B m.length c' (cellsG m) rfl (cellsG_len m) HSb.out (cellsG_one m) (by unfold maxLen; omega) (by omega) HQ10.out.size ?_; intro v2 w11 own2 gr2 _
         have HQ11 : Hid (Q w9 w11) := Below.grown HQ10.out gr2 HQ10.out.size (fun k e => (HO1.out.lt k e).1)
         have HQ11a : Hid (Q w9 (w11.alloc (Obj.cells #[.int .i64 5, .string ⟨#[]⟩, .int .i64 2] 38))) := HQ11.out.alloc _
         have HO2 := Lib.hid (own2.alloc (Obj.cells #[.int .i64 5, .string ⟨#[]⟩, .int .i64 2] 38))
         have HSn : Hid (Src (w11.alloc (Obj.cells #[.int .i64 5, .string ⟨#[]⟩, .int .i64 2] 38)) (some ⟨w11.heap.size, 0, none⟩) [.int .i64 5, .string ⟨#[]⟩, .int .i64 2]) := src_alloc w11 [.int .i64 5, .string ⟨#[]⟩, .int .i64 2] 38 (0, 0)
         clear own2 gr2)
      | (at_builtin; refine wpList_append_src _ rfl (.tmp 69) (.tmp 70) _ rfl w9.heap.size 38 i0 _ 3 32 Tryd.underlying22 Hi.out Hz0.out Hz1.out Hz2.out rfl (by omega) (.slice (some ⟨w9.heap.size, 0, none⟩) 0 0) 0 [] rfl HE.out A l.length c (cellsG l) rfl (cellsG_len l) HSa.out (cellsG_one l) (by unfold maxLen; omega) (by omega) HQE9.out.size ?_; intro v1 w10 own1 gr1 _
         have HQ10 : Hid (Q w9 w10) := grown_q gr1 HQE9.out (Nat.le_refl _)
         have HO1 := Lib.hid own1
         have HSb := Lib.hid (HR'.out.q (p9.out.trans HQ10.out)).src
         clear own1 gr1)
      | (go_at_call 13; refine (same7_any A9 A3 n9 c9 _ c3 L L w12 HN9.out (by rw [HLL.out]) (HR9.out.q HQ12.out) HR3.out (by rw [HLL.out]; omega)).mono ?_; rintro e w13 ⟨rfl, hd13⟩; rw [(sameB_iff L L).2 rfl]; have HQ13 : Hid (Q w w13) := by
           obtain ⟨n13, rfl⟩ := hd13
           exact (p9.out.trans HQ12.out).drewN n13))
    go_ret
    exact ⟨by first | rfl | simp, HQ13.out⟩
set_option maxRecDepth 100000 in
set_option maxHeartbeats 4000000 in
theorem long124 (A B : Option Addr) (c c' : Nat) (l m : List Tg) (x y : Ex) (w : World) (hr : Rds w w.heap.size A (cellsG l)) (hr' : Rds w w.heap.size B (cellsG m)) (hl : l.length ≤ 140737488355328) (hl' : m.length ≤ 140737488355328) (hz : ∀ t ∈ l, t.2.1.size ≤ 140737488355328) (hz' : ∀ t ∈ m, t.2.1.size ≤ 140737488355328) (HB : Both l m x y) (hrt : rightB l = true) (hrt' : rightB m = true)
    (hlong : 2000 < (bs (((((([40] ++ x.text) ++ [41]) ++ [124]) ++ [40]) ++ y.text) ++ [41])).size) :
    Calls Tryd.prog 6 #[.slice A l.length c, .slice B m.length c', .bool true] w fun e w' => e = .returned (.bool true) ∧ Q w w' := by
  have HR := Lib.hid hr
  have HR' := Lib.hid hr'
  have CF := Lib.hid (fun (W : World) (q : Q w W) => few7_any A l.length c l W rfl (hr.q q) hl hz)
  have CF' := Lib.hid (fun (W : World) (q : Q w W) => few7_any B m.length c' m W rfl (hr'.q q) hl' hz')
  have CR := Lib.hid (fun (W : World) (q : Q w W) => right7_any A l.length c l W rfl (HR.out.q q) HB.fa)
  have CR' := Lib.hid (fun (W : World) (q : Q w W) => right7_any B m.length c' m W rfl (HR'.out.q q) HB.fb)
  rw [decide_eq_true HB.fa] at CF
  rw [decide_eq_true HB.fb] at CF'
  rw [hrt] at CR
  rw [hrt'] at CR'
  have hta := HB.a.textLen HB.fa
  have htb := HB.b.textLen HB.fb
  have CT : Hid (∀ W : World, Q w W → Calls Tryd.prog 11 #[.slice A l.length c] W fun e w' => e = .returned (.string (bs x.text)) ∧ Q W w') := fun W q => HB.a.text HB.fa A c W (HR.out.q q)
  have CT' : Hid (∀ W : World, Q w W → Calls Tryd.prog 11 #[.slice B m.length c'] W fun e w' => e = .returned (.string (bs y.text)) ∧ Q W w') := fun W q => HB.b.text HB.fb B c' W (HR'.out.q q)
  have HB := Lib.hid HB
  clear hr hz hr' hz' hrt hrt' hl hl'
  have a1 : ∀ u : World, (Op.stringOp .add ⟨#[40]⟩ (bs x.text)).run Tryd.prog u = .ok (.string (bs ([40] ++ x.text))) u := fun u => add_bs [40] x.text u (by simp; omega)
  have a2 : ∀ u : World, (Op.stringOp .add (bs ([40] ++ x.text)) ⟨#[41]⟩).run Tryd.prog u = .ok (.string (bs (([40] ++ x.text) ++ [41]))) u := fun u => add_bs ([40] ++ x.text) [41] u (by simp; omega)
  have a3 : ∀ u : World, (Op.stringOp .add (bs (([40] ++ x.text) ++ [41])) ⟨#[124]⟩).run Tryd.prog u = .ok (.string (bs ((([40] ++ x.text) ++ [41]) ++ [124]))) u := fun u => add_bs (([40] ++ x.text) ++ [41]) [124] u (by simp; omega)
  have a4 : ∀ u : World, (Op.stringOp .add (bs ((([40] ++ x.text) ++ [41]) ++ [124])) ⟨#[40]⟩).run Tryd.prog u = .ok (.string (bs (((([40] ++ x.text) ++ [41]) ++ [124]) ++ [40]))) u := fun u => add_bs ((([40] ++ x.text) ++ [41]) ++ [124]) [40] u (by simp; omega)
  have a5 : ∀ u : World, (Op.stringOp .add (bs (((([40] ++ x.text) ++ [41]) ++ [124]) ++ [40])) (bs y.text)).run Tryd.prog u = .ok (.string (bs ((((([40] ++ x.text) ++ [41]) ++ [124]) ++ [40]) ++ y.text))) u := fun u => add_bs (((([40] ++ x.text) ++ [41]) ++ [124]) ++ [40]) y.text u (by simp; omega)
  have a6 : ∀ u : World, (Op.stringOp .add (bs ((((([40] ++ x.text) ++ [41]) ++ [124]) ++ [40]) ++ y.text)) ⟨#[41]⟩).run Tryd.prog u = .ok (.string (bs (((((([40] ++ x.text) ++ [41]) ++ [124]) ++ [40]) ++ y.text) ++ [41]))) u := fun u => add_bs ((((([40] ++ x.text) ++ [41]) ++ [124]) ++ [40]) ++ y.text) [41] u (by simp; omega)
  have CK := Lib.hid (fun (W : World) (_ : Q w W) => Lx.refToks_full (bs (((((([40] ++ x.text) ++ [41]) ++ [124]) ++ [40]) ++ y.text) ++ [41])) W hlong)
  have CD := Lib.hid (fun (W : World) (_ : Q w W) => read_any none 0 0 [] W 2 0 [] rfl (Rds.nil _ _ _) (by simp) run_nil)
  clear hlong hta htb HB
  generalize bs (((((([40] ++ x.text) ++ [41]) ++ [124]) ++ [40]) ++ y.text) ++ [41]) = s6 at *
  generalize bs ([40] ++ x.text) = s1 at *
  generalize bs (([40] ++ x.text) ++ [41]) = s2 at *
  generalize bs ((([40] ++ x.text) ++ [41]) ++ [124]) = s3 at *
  generalize bs (((([40] ++ x.text) ++ [41]) ++ [124]) ++ [40]) = s4 at *
  generalize bs ((((([40] ++ x.text) ++ [41]) ++ [124]) ++ [40]) ++ y.text) = s5 at *
  generalize bs x.text = ta at *
  generalize bs y.text = tb at *
  go_enter Tryd.func6, Tryd.ntmps6
  go_wp2_with fail
  refine (shown_any _).mono ?_
  rintro e w1 ⟨rfl, q1⟩
  have p1 := Lib.hid q1
  clear q1
  go_wp2_with fail
  refine (CF.out _ p1.out).mono ?_
  rintro e w2 ⟨rfl, q2⟩
  have p2 := Lib.hid (p1.out.trans q2)
  clear q2
  go_wp2_with fail
  refine (CF'.out _ p2.out).mono ?_
  rintro e w3 ⟨rfl, q3⟩
  have p3 := Lib.hid (p2.out.trans q3)
  clear q3
  go_wp2_with fail
  refine (CR.out _ p3.out).mono ?_
  rintro e w4 ⟨rfl, q4⟩
  have p4 := Lib.hid (p3.out.trans q4)
  clear q4
  go_wp2_with fail
  refine (CR'.out _ p4.out).mono ?_
  rintro e w5 ⟨rfl, q5⟩
  have p5 := Lib.hid (p4.out.trans q5)
  clear q5
  go_wp2_with fail
  refine (CT.out _ p5.out).mono ?_
  rintro e w6 ⟨rfl, q6⟩
  have p6 := Lib.hid (p5.out.trans q6)
  clear q6
  go_wp2_with fail
  refine (CT'.out _ p6.out).mono ?_
  rintro e w7 ⟨rfl, q7⟩
  have p7 := Lib.hid (p6.out.trans q7)
  clear q7
  go_wp2_with fail
  refine (CK.out _ p7.out).mono ?_
  rintro e w8 ⟨rfl, q8⟩
  have p8 := Lib.hid (p7.out.trans q8)
  clear q8
  go_wp2_with fail
  refine (CD.out _ p8.out).mono ?_
  rintro e w9 ⟨A9, n9, c9, rfl, rfl, hr9, q9⟩
  have p9 := Lib.hid (p8.out.trans q9)
  clear q9
  go_wp2_with fail
  go_ret
  exact ⟨rfl, p9.out⟩

set_option maxRecDepth 100000 in
set_option maxHeartbeats 4000000 in
theorem short124 (A B : Option Addr) (c c' : Nat) (l m : List Tg) (x y : Ex) (w : World) (hr : Rds w w.heap.size A (cellsG l)) (hr' : Rds w w.heap.size B (cellsG m)) (hl : l.length ≤ 140737488355328) (hl' : m.length ≤ 140737488355328) (hz : ∀ t ∈ l, t.2.1.size ≤ 140737488355328) (hz' : ∀ t ∈ m, t.2.1.size ≤ 140737488355328) (HB : Both l m x y) (hrt : rightB l = true) (hrt' : rightB m = true)
    (hlong : (bs (((((([40] ++ x.text) ++ [41]) ++ [124]) ++ [40]) ++ y.text) ++ [41])).size ≤ 2000) :
    Calls Tryd.prog 6 #[.slice A l.length c, .slice B m.length c', .bool true] w fun e w' => e = .returned (.bool true) ∧ Q w w' := by
  have HR := Lib.hid hr
  have HR' := Lib.hid hr'
  have CF := Lib.hid (fun (W : World) (q : Q w W) => few7_any A l.length c l W rfl (hr.q q) hl hz)
  have CF' := Lib.hid (fun (W : World) (q : Q w W) => few7_any B m.length c' m W rfl (hr'.q q) hl' hz')
  have CR := Lib.hid (fun (W : World) (q : Q w W) => right7_any A l.length c l W rfl (HR.out.q q) HB.fa)
  have CR' := Lib.hid (fun (W : World) (q : Q w W) => right7_any B m.length c' m W rfl (HR'.out.q q) HB.fb)
  rw [decide_eq_true HB.fa] at CF
  rw [decide_eq_true HB.fb] at CF'
  rw [hrt] at CR
  rw [hrt'] at CR'
  have hta := HB.a.textLen HB.fa
  have htb := HB.b.textLen HB.fb
  have CT : Hid (∀ W : World, Q w W → Calls Tryd.prog 11 #[.slice A l.length c] W fun e w' => e = .returned (.string (bs x.text)) ∧ Q W w') := fun W q => HB.a.text HB.fa A c W (HR.out.q q)
  have CT' : Hid (∀ W : World, Q w W → Calls Tryd.prog 11 #[.slice B m.length c'] W fun e w' => e = .returned (.string (bs y.text)) ∧ Q W w') := fun W q => HB.b.text HB.fb B c' W (HR'.out.q q)
  have HB := Lib.hid HB
  clear hr hz hr' hz' hrt hrt' hl hl'
  have ht7 : (bs (((((([40] ++ x.text) ++ [41]) ++ [124]) ++ [40]) ++ y.text) ++ [41])).size = x.text.length + y.text.length + 5 := by simp [bs, ByteArray.size]; omega
  have a1 : ∀ u : World, (Op.stringOp .add ⟨#[40]⟩ (bs x.text)).run Tryd.prog u = .ok (.string (bs ([40] ++ x.text))) u := fun u => add_bs [40] x.text u (by simp; omega)
  have a2 : ∀ u : World, (Op.stringOp .add (bs ([40] ++ x.text)) ⟨#[41]⟩).run Tryd.prog u = .ok (.string (bs (([40] ++ x.text) ++ [41]))) u := fun u => add_bs ([40] ++ x.text) [41] u (by simp; omega)
  have a3 : ∀ u : World, (Op.stringOp .add (bs (([40] ++ x.text) ++ [41])) ⟨#[124]⟩).run Tryd.prog u = .ok (.string (bs ((([40] ++ x.text) ++ [41]) ++ [124]))) u := fun u => add_bs (([40] ++ x.text) ++ [41]) [124] u (by simp; omega)
  have a4 : ∀ u : World, (Op.stringOp .add (bs ((([40] ++ x.text) ++ [41]) ++ [124])) ⟨#[40]⟩).run Tryd.prog u = .ok (.string (bs (((([40] ++ x.text) ++ [41]) ++ [124]) ++ [40]))) u := fun u => add_bs ((([40] ++ x.text) ++ [41]) ++ [124]) [40] u (by simp; omega)
  have a5 : ∀ u : World, (Op.stringOp .add (bs (((([40] ++ x.text) ++ [41]) ++ [124]) ++ [40])) (bs y.text)).run Tryd.prog u = .ok (.string (bs ((((([40] ++ x.text) ++ [41]) ++ [124]) ++ [40]) ++ y.text))) u := fun u => add_bs (((([40] ++ x.text) ++ [41]) ++ [124]) ++ [40]) y.text u (by simp; omega)
  have a6 : ∀ u : World, (Op.stringOp .add (bs ((((([40] ++ x.text) ++ [41]) ++ [124]) ++ [40]) ++ y.text)) ⟨#[41]⟩).run Tryd.prog u = .ok (.string (bs (((((([40] ++ x.text) ++ [41]) ++ [124]) ++ [40]) ++ y.text) ++ [41]))) u := fun u => add_bs ((((([40] ++ x.text) ++ [41]) ++ [124]) ++ [40]) ++ y.text) [41] u (by simp; omega)
  have HLx := Lib.hid (two_lx 124 (by decide) HB.out.a.lx HB.out.b.lx)
  have CK : Hid (∀ W : World, Q w W → Calls Tryd.prog 10 #[.string (bs (((((([40] ++ x.text) ++ [41]) ++ [124]) ++ [40]) ++ y.text) ++ [41]))] W (ToksAt (brT x.toks ++ sgT 124 :: brT y.toks) W)) := fun W _ => toks_of HLx.out (by rw [ht7] at hlong; simp; omega) W
  have hlk := toks_few HLx.out
  have HTw := Lib.hid (fun (toks : List Tg) (ha : At toks 0 (brT x.toks ++ sgT 124 :: brT y.toks)) (hl : toks.length = (brT x.toks ++ sgT 124 :: brT y.toks).length) => two_whole (k := 4) (.inl ⟨rfl, rfl⟩) (RunsAs.tree HB.out.a.wf HB.out.a.mayX) (RunsAs.tree HB.out.b.wf HB.out.b.mayX) ha hl)
  have HLk : Hid ((brT x.toks ++ sgT 124 :: brT y.toks).length ≤ 10000) := by
    rw [ht7] at hlong
    refine Nat.le_trans hlk ?_
    simp
    omega
  rw [HB.out.a.nodes, HB.out.b.nodes] at HTw
  have HFa : Hid (l.length ≤ 600) := Nat.le_trans (total7_ge l) HB.out.fa
  have HFb : Hid (m.length ≤ 600) := Nat.le_trans (total7_ge m) HB.out.fb
  clear hlong ht7 hta htb HLx hlk HB
  generalize bs (((((([40] ++ x.text) ++ [41]) ++ [124]) ++ [40]) ++ y.text) ++ [41]) = s6 at *
  generalize bs ([40] ++ x.text) = s1 at *
  generalize bs (([40] ++ x.text) ++ [41]) = s2 at *
  generalize bs ((([40] ++ x.text) ++ [41]) ++ [124]) = s3 at *
  generalize bs (((([40] ++ x.text) ++ [41]) ++ [124]) ++ [40]) = s4 at *
  generalize bs ((((([40] ++ x.text) ++ [41]) ++ [124]) ++ [40]) ++ y.text) = s5 at *
  generalize bs x.text = ta at *
  generalize bs y.text = tb at *
  generalize brT x.toks ++ sgT 124 :: brT y.toks = tts at *
  go_enter Tryd.func6, Tryd.ntmps6
  go_wp2_with fail
  refine (shown_any _).mono ?_
  rintro e w1 ⟨rfl, q1⟩
  have p1 := Lib.hid q1
  clear q1
  go_wp2_with fail
  refine (CF.out _ p1.out).mono ?_
  rintro e w2 ⟨rfl, q2⟩
  have p2 := Lib.hid (p1.out.trans q2)
  clear q2
  go_wp2_with fail
  refine (CF'.out _ p2.out).mono ?_
  rintro e w3 ⟨rfl, q3⟩
  have p3 := Lib.hid (p2.out.trans q3)
  clear q3
  go_wp2_with fail
  refine (CR.out _ p3.out).mono ?_
  rintro e w4 ⟨rfl, q4⟩
  have p4 := Lib.hid (p3.out.trans q4)
  clear q4
  go_wp2_with fail
  refine (CR'.out _ p4.out).mono ?_
  rintro e w5 ⟨rfl, q5⟩
  have p5 := Lib.hid (p4.out.trans q5)
  clear q5
  go_wp2_with fail
  refine (CT.out _ p5.out).mono ?_
  rintro e w6 ⟨rfl, q6⟩
  have p6 := Lib.hid (p5.out.trans q6)
  clear q6
  go_wp2_with fail
  refine (CT'.out _ p6.out).mono ?_
  rintro e w7 ⟨rfl, q7⟩
  have p7 := Lib.hid (p6.out.trans q7)
  clear q7
  go_wp2_with fail
  refine (CK.out _ p7.out).mono ?_
  rintro e w8 ⟨A8, c8, toks, rfl, hr8, ha8, hl8, q8⟩
  have p8 := Lib.hid (p7.out.trans q8)
  have HR8 := Lib.hid hr8
  have HL8 : Hid (toks.length ≤ 10000) := by rw [hl8]; exact HLk
  rcases HTw.out toks ha8 hl8 with ⟨p', hrun⟩ | hrun
  · have CD := Lib.hid (read_any A8 toks.length c8 toks w8 7 p' [] rfl HR8.out HL8.out hrun)
    clear hrun q8 hr8 ha8 hl8
    go_wp2_with fail
    refine CD.out.mono ?_
    rintro e w9 ⟨A9, n9, c9, rfl, rfl, hr9, q9⟩
    have p9 := Lib.hid (p8.out.trans q9)
    clear q9 hr9
    go_wp2_with fail
    go_ret
    exact ⟨rfl, p9.out⟩
  · have CD := Lib.hid (read_any A8 toks.length c8 toks w8 0 toks.length (l ++ m ++ [(4, ⟨#[]⟩, 2)]) rfl HR8.out HL8.out hrun)
    clear hrun q8 hr8 ha8 hl8
    go_wp2_with fail
    refine CD.out.mono ?_
    rintro e w9 ⟨A9, n9, c9, rfl, hn9, hr9, q9⟩
    have p9 := Lib.hid (p8.out.trans q9)
    have HR9 := Lib.hid hr9
    have HN9 := Lib.hid hn9
    clear q9 hr9 hn9
    obtain ⟨i0, hi, hz0, hz1, hz2⟩ := info_parts nodeInfo
    have Hi := Lib.hid hi
    have Hz0 := Lib.hid hz0
    have Hz1 := Lib.hid hz1
    have Hz2 := Lib.hid hz2
    clear hi hz0 hz1 hz2
    have qE := p9.out.alloc (Obj.cells #[] 38)
    have HSa := Lib.hid (HR.out.q qE).src
    have HE : Hid ((w9.alloc (Obj.cells #[] 38)).ownsRow w9.heap.size 38 3 (.slice (some ⟨w9.heap.size, 0, none⟩) 0 0) 0 []) := own_empty (Nat.le_refl _) (heap_alloc_new w9 _)
    have HQE := Lib.hid qE
    have HQE9 := Lib.hid ((Q.refl w9).alloc (Obj.cells #[] 38))
    have ha6 := HFa.out
    have hb6 := HFb.out
    clear qE
    have HL9 : Hid ([] ++ cellsG l ++ cellsG m ++ [.int .i64 4, .string ⟨#[]⟩, .int .i64 2] = cellsG (l ++ m ++ [(4, ⟨#[]⟩, 2)])) := by simp [Hid, cellsG_append, cellsG]
    generalize hL : l ++ m ++ [(4, ⟨#[]⟩, 2)] = L at *
    have HLL : Hid (L.length = l.length + m.length + 1) := by unfold Hid; rw [← hL]; simp; omega
    clear hL
    go_wp2_with (first
      | (at_builtin; refine wpList_append_src _ rfl (.tmp 73) (.tmp 76) _ rfl w9.heap.size 38 i0 _ 3 32 Tryd.underlying22 Hi.out Hz0.out Hz1.out Hz2.out rfl (by omega) v2 (0 + l.length + m.length) ([] ++ cellsG l ++ cellsG m) rfl HO2.out (some ⟨w11.heap.size, 0, none⟩) 1 1 [.int .i64 4, .string ⟨#[]⟩, .int .i64 2] rfl rfl HSn.out (by simp [Value.oneCell']) (by unfold maxLen; omega) (by omega) HQ11a.out.size ?_; intro v3 w12 own3 gr3 _
         have HQ12 : Hid (Q w9 w12) := Below.grown HQ11a.out gr3 HQ11a.out.size (fun k e => (HO2.out.lt k e).1)
         obtain ⟨A3, c3, rfl, _, hr3⟩ := own_read own3
         rw [HL9.out] at hr3
         have HR3 := Lib.hid hr3
         clear own3 gr3 hr3)
      | (at_builtin; refine wpList_append_src _ rfl (.tmp 71) (.tmp 72) _ rfl w9.heap.size 38 i0 _ 3 32 Tryd.underlying22 Hi.out Hz0.out Hz1.out Hz2.out rfl (by omega) v1 (0 + l.length) ([] ++ cellsG l) rfl HO1.out B m.length c' (cellsG m) rfl (cellsG_len m) HSb.out (cellsG_one m) (by unfold maxLen; omega) (by omega) HQ10.out.size ?_; intro v2 w11 own2 gr2 _
         have HQ11 : Hid (Q w9 w11) := Below.grown HQ10.out gr2 HQ10.out.size (fun k e => (HO1.out.lt k e).1)
         have HQ11a : Hid (Q w9 (w11.alloc (Obj.cells #[.int .i64 4, .string ⟨#[]⟩, .int .i64 2] 38))) := HQ11.out.alloc _
         have HO2 := Lib.hid (own2.alloc (Obj.cells #[.int .i64 4, .string ⟨#[]⟩, .int .i64 2] 38))
         have HSn : Hid (Src (w11.alloc (Obj.cells #[.int .i64 4, .string ⟨#[]⟩, .int .i64 2] 38)) (some ⟨w11.heap.size, 0, none⟩) [.int .i64 4, .string ⟨#[]⟩, .int .i64 2]) := src_alloc w11 [.int .i64 4, .string ⟨#[]⟩, .int .i64 2] 38 (0, 0)
         clear own2 gr2)
      | (at_builtin; refine wpList_append_src _ rfl (.tmp 69) (.tmp 70) _ rfl w9.heap.size 38 i0 _ 3 32 Tryd.underlying22 Hi.out Hz0.out Hz1.out Hz2.out rfl (by omega) (.slice (some ⟨w9.heap.size, 0, none⟩) 0 0) 0 [] rfl HE.out A l.length c (cellsG l) rfl (cellsG_len l) HSa.out (cellsG_one l) (by unfold maxLen; omega) (by omega) HQE9.out.size ?_; intro v1 w10 own1 gr1 _
         have HQ10 : Hid (Q w9 w10) := grown_q gr1 HQE9.out (Nat.le_refl _)
         have HO1 := Lib.hid own1
         have HSb := Lib.hid (HR'.out.q (p9.out.trans HQ10.out)).src
         clear own1 gr1)
      | (go_at_call 13; refine (same7_any A9 A3 n9 c9 _ c3 L L w12 HN9.out (by rw [HLL.out]) (HR9.out.q HQ12.out) HR3.out (by rw [HLL.out]; omega)).mono ?_; rintro e w13 ⟨rfl, hd13⟩; rw [(sameB_iff L L).2 rfl]; have HQ13 : Hid (Q w w13) := by
           obtain ⟨n13, rfl⟩ := hd13
           exact (p9.out.trans HQ12.out).drewN n13))
    go_ret
    exact ⟨by first | rfl | simp, HQ13.out⟩
set_option maxRecDepth 100000 in
set_option maxHeartbeats 4000000 in
theorem walk (A B : Option Addr) (n c n' c' : Nat) (l m : List Tg) (u : Bool) (w : World) (hn : n = l.length) (hn' : n' = m.length) (hr : Rds w w.heap.size A (cellsG l)) (hr' : Rds w w.heap.size B (cellsG m)) (hl : l.length ≤ 140737488355328) (hl' : m.length ≤ 140737488355328) (hz : ∀ t ∈ l, t.2.1.size ≤ 140737488355328) (hz' : ∀ t ∈ m, t.2.1.size ≤ 140737488355328) :
    Calls Tryd.prog 6 #[.slice A n c, .slice B n' c', .bool u] w fun e w' => e = .returned (.bool true) ∧ Q w w' := by
  subst hn hn'
  have HR := Lib.hid hr
  have HR' := Lib.hid hr'
  have CF := Lib.hid (fun (W : World) (q : Q w W) => few7_any A l.length c l W rfl (hr.q q) hl hz)
  have CF' := Lib.hid (fun (W : World) (q : Q w W) => few7_any B m.length c' m W rfl (hr'.q q) hl' hz')
  have HZ := Lib.hid hz
  have HZ' := Lib.hid hz'
  clear hr hz hr' hz'
  by_cases hf : total7 l ≤ 600
  · rw [decide_eq_true hf] at CF
    have CR := Lib.hid (fun (W : World) (q : Q w W) => right7_any A l.length c l W rfl (HR.out.q q) hf)
    by_cases hf' : total7 m ≤ 600
    · rw [decide_eq_true hf'] at CF'
      have CR' := Lib.hid (fun (W : World) (q : Q w W) => right7_any B m.length c' m W rfl (HR'.out.q q) hf')
      cases hrt : rightB l
      · rw [hrt] at CR
        clear hrt hf hf'
        go_enter Tryd.func6, Tryd.ntmps6
        go_wp2_with fail
        refine (shown_any _).mono ?_
        rintro e w1 ⟨rfl, q1⟩
        have p1 := Lib.hid q1
        clear q1
        go_wp2_with fail
        refine (CF.out _ p1.out).mono ?_
        rintro e w2 ⟨rfl, q2⟩
        have p2 := Lib.hid (p1.out.trans q2)
        clear q2
        go_wp2_with fail
        refine (CF'.out _ p2.out).mono ?_
        rintro e w3 ⟨rfl, q3⟩
        have p3 := Lib.hid (p2.out.trans q3)
        clear q3
        go_wp2_with fail
        refine (CR.out _ p3.out).mono ?_
        rintro e w4 ⟨rfl, q4⟩
        have p4 := Lib.hid (p3.out.trans q4)
        clear q4
        go_wp2_with fail
        go_ret
        exact ⟨rfl, p4.out⟩

      rw [hrt] at CR
      cases hrt' : rightB m
      · rw [hrt'] at CR'
        clear hrt hrt' hf hf'
        go_enter Tryd.func6, Tryd.ntmps6
        go_wp2_with fail
        refine (shown_any _).mono ?_
        rintro e w1 ⟨rfl, q1⟩
        have p1 := Lib.hid q1
        clear q1
        go_wp2_with fail
        refine (CF.out _ p1.out).mono ?_
        rintro e w2 ⟨rfl, q2⟩
        have p2 := Lib.hid (p1.out.trans q2)
        clear q2
        go_wp2_with fail
        refine (CF'.out _ p2.out).mono ?_
        rintro e w3 ⟨rfl, q3⟩
        have p3 := Lib.hid (p2.out.trans q3)
        clear q3
        go_wp2_with fail
        refine (CR.out _ p3.out).mono ?_
        rintro e w4 ⟨rfl, q4⟩
        have p4 := Lib.hid (p3.out.trans q4)
        clear q4
        go_wp2_with fail
        refine (CR'.out _ p4.out).mono ?_
        rintro e w5 ⟨rfl, q5⟩
        have p5 := Lib.hid (p4.out.trans q5)
        clear q5
        go_wp2_with fail
        go_ret
        exact ⟨rfl, p5.out⟩

      rw [hrt'] at CR'
      obtain ⟨x, hx⟩ := right_x hrt
      obtain ⟨y, hy⟩ := right_x hrt'
      have HB := Both.mk hx hy hf hf'
      cases u
      · by_cases hlong : 2000 < (bs (((((([40] ++ x.text) ++ [41]) ++ [38]) ++ [40]) ++ y.text) ++ [41])).size
        · exact long38 A B c c' l m x y w HR.out HR'.out hl hl' HZ.out HZ'.out HB hrt hrt' hlong
        · exact short38 A B c c' l m x y w HR.out HR'.out hl hl' HZ.out HZ'.out HB hrt hrt' (Nat.le_of_not_lt hlong)
      · by_cases hlong : 2000 < (bs (((((([40] ++ x.text) ++ [41]) ++ [124]) ++ [40]) ++ y.text) ++ [41])).size
        · exact long124 A B c c' l m x y w HR.out HR'.out hl hl' HZ.out HZ'.out HB hrt hrt' hlong
        · exact short124 A B c c' l m x y w HR.out HR'.out hl hl' HZ.out HZ'.out HB hrt hrt' (Nat.le_of_not_lt hlong)
    · rw [decide_eq_false hf'] at CF'
      clear hf hf'
      go_enter Tryd.func6, Tryd.ntmps6
      go_wp2_with fail
      refine (shown_any _).mono ?_
      rintro e w1 ⟨rfl, q1⟩
      have p1 := Lib.hid q1
      clear q1
      go_wp2_with fail
      refine (CF.out _ p1.out).mono ?_
      rintro e w2 ⟨rfl, q2⟩
      have p2 := Lib.hid (p1.out.trans q2)
      clear q2
      go_wp2_with fail
      refine (CF'.out _ p2.out).mono ?_
      rintro e w3 ⟨rfl, q3⟩
      have p3 := Lib.hid (p2.out.trans q3)
      clear q3
      go_wp2_with fail
      go_ret
      exact ⟨rfl, p3.out⟩

  · rw [decide_eq_false hf] at CF
    clear hf
    go_enter Tryd.func6, Tryd.ntmps6
    go_wp2_with fail
    refine (shown_any _).mono ?_
    rintro e w1 ⟨rfl, q1⟩
    have p1 := Lib.hid q1
    clear q1
    go_wp2_with fail
    refine (CF.out _ p1.out).mono ?_
    rintro e w2 ⟨rfl, q2⟩
    have p2 := Lib.hid (p1.out.trans q2)
    clear q2
    go_wp2_with fail
    go_ret
    exact ⟨rfl, p2.out⟩

theorem reads (os : Os) {H : Type} (enc : TypeId × Value → H) : ∃ places, DataW.whole enc Tryd.prog ((laidWorld os).forCall (fun _ _ => 0) ⟨#[], #[.slice none 0 0, .slice none 0 0, .bool false], []⟩).memory Tryd.f6.params.toList Rows.exprTwoSpec.vars false (#[.slice none 0 0, .slice none 0 0, .bool false] : Array Value).toList 8 = some ([.nil, .nil, .lit (.bool false)], [], places) :=
  ⟨[], by kernel_rfl⟩

set_option maxRecDepth 100000 in
theorem contract (H : Type) (enc : TypeId × Value → H) (W : World) (base : Nat) (args : Array Value) (ds gs : List (DataW H)) (before : List MemPlace)
    (hval : ∀ (j : Nat) t v, Tryd.f6.params[j]? = some t → args[j]? = some v → Value.okWide Tryd.prog W .any base t v)
    (hW : DataW.Whole enc Tryd.prog Tryd.f6.params.toList Rows.exprTwoSpec.vars false W args.toList ds gs before)
    (hsz0 : (DataW.weightsEach Tryd.prog (Tryd.f6.params.toList ++ Rows.exprTwoSpec.plain.varTypes Tryd.prog) (ds ++ gs)).all (· ≤ reachBytes) = true) :
    Calls Tryd.prog 6 args W fun e W' => ∃ v, e = .returned v ∧ Rows.exprTwoSpec.post enc Tryd.prog Tryd.f6 false true false false W args v W' := by
  have hW' := hW
  obtain ⟨p, q, hA0, hV, rfl, hfz, hnd⟩ := hW
  have hA : DataW.TrodAll enc Tryd.prog W 0 (fun _ => true) true Tryd.f6.params.toList args.toList ds p := hA0
  rw [Tryd.params6] at hA hval
  obtain ⟨v0, vs0, d0, ds0, p0, q0, hargs, rfl, rfl, h0, r0⟩ := trodAll_cons hA
  obtain ⟨v1, vs1, d1, ds1, p1, q1, rfl, rfl, rfl, h1, r1⟩ := trodAll_cons r0
  obtain ⟨v2, vs2, d2, ds2, p2, q2, rfl, rfl, rfl, h2, r2⟩ := trodAll_cons r1
  obtain ⟨rfl, rfl, rfl⟩ := trodAll_nil r2
  obtain rfl : args = #[v0, v1, v2] := by cases args; simp_all
  obtain ⟨rfl, rfl⟩ := trodVars_none hV
  have z0 : ∀ n ∈ d0.weights Tryd.prog 22, n ≤ reachBytes := fun n hn => by
    have := List.all_eq_true.1 hsz0 n (DataW.weights_mem_each (j := 0) (t := 22) (d := d0) (by rw [Tryd.params6]; rfl) rfl n hn)
    simpa using this
  have z1 : ∀ n ∈ d1.weights Tryd.prog 22, n ≤ reachBytes := fun n hn => by
    have := List.all_eq_true.1 hsz0 n (DataW.weights_mem_each (j := 1) (t := 22) (d := d1) (by rw [Tryd.params6]; rfl) rfl n hn)
    simpa using this
  have z2 : ∀ n ∈ d2.weights Tryd.prog 4, n ≤ reachBytes := fun n hn => by
    have := List.all_eq_true.1 hsz0 n (DataW.weights_mem_each (j := 2) (t := 4) (d := d2) (by rw [Tryd.params6]; rfl) rfl n hn)
    simpa using this
  clear hsz0
  obtain ⟨A0, n0, k0, l0, rfl, e0, hr0, x0, y0, u0⟩ := open_nodes (hval 0 22 v0 rfl rfl) h0 z0
  obtain ⟨A1, n1, k1, l1, rfl, e1, hr1, x1, y1, u1⟩ := open_nodes (hval 1 22 v1 rfl rfl) h1 z1
  obtain ⟨u, rfl, rfl, rfl⟩ := open_bool Tryd.underlying4 (hval 2 4 v2 rfl rfl) h2
  clear hA0
  refine (walk A0 A1 n0 k0 n1 k1 l0 l1 u W e0 e1 hr0 hr1 x0 x1 u0 u1).mono fun e W' ⟨he, hg⟩ => ?_
  subst he
  exact ⟨_, rfl, post_law laid (by rw [Tryd.params6]; decide +kernel) rfl rfl (by kernel_rfl) Tryd.underlying4 hW' hg⟩

set_option maxRecDepth 100000 in
theorem lifted (os : Os) (started : os.Started) (H : Type) (enc : TypeId × Value → H) (F : Stop.Interp) :
    ReturnsInHanded {} Tryd.checked os 6 .any ((OpenSpec.ofChange Rows.exprTwoSpec).preRow enc Tryd.prog Tryd.f6 Rows.exprTwoRow.domain false Rows.exprTwoRow.laid) (((OpenSpec.ofChange Rows.exprTwoSpec).at F).post enc Tryd.prog Tryd.f6 false true false false) := by
  obtain ⟨places, hx⟩ := reads os enc
  refine returnsInHanded_of_row (C := Tryd.checked) (s := OpenSpec.ofChange Rows.exprTwoSpec) own started (by kernel_rfl) Tryd.func6
    (witness_row_at (enc := enc) (C := Tryd.checked) false (laidWorld os) #[.slice none 0 0, .slice none 0 0, .bool false] rfl (laid_vars os _) (by kernel_rfl) (by kernel_rfl)
      (OpenSpec.preRow_of_cond 8 hx (by kernel_rfl) (fun k hk => by cases hk) (by kernel_rfl) (laid_met os _))) ?_
  intro W base args ds gs before hval hW _ _ hsz _ _ _
  exact contract H enc W base args ds gs before hval hW hsz

theorem said : Rows.ExprTwoSaid :=
  OpenClaim.holds_of_cond 6 Tryd.f6 rfl rfl rfl rfl rfl rfl rfl ⟨rfl, rfl, rfl, rfl, rfl⟩ rfl rfl rfl rfl rfl (by kernel_rfl) Tryd.func6 (by kernel_rfl)
    (of_decide_eq_true (by kernel_rfl)) (by unfold Func.isWrapper; first | (rw [if_pos (by decide +kernel)]; kernel_rfl) | (rw [if_neg (by decide +kernel)]; exact ⟨rfl, rfl⟩))
    (fun os started H enc _ F => by rw [OpenClaim.pre_eq_preRow]; exact lifted os started H enc F)

theorem plain (f : FuncId) (fn : Func) (hf : Tryd.pinned.checked.prog.funcNamed "tammy/tammylaw07.ExprTwo" = some f) (hfn : Tryd.pinned.checked.prog.funcs[f]? = some fn) :
    true = Tryd.pinned.checked.prog.looks [] ∧ ∀ (j : Nat) t, fn.params[j]? = some t → Tryd.pinned.checked.prog.wantsStandIn t = false := by
  obtain rfl : f = 6 := Option.some.inj ((show Tryd.prog.funcNamed "tammy/tammylaw07.ExprTwo" = some 6 by kernel_rfl).symm.trans hf) |>.symm
  obtain rfl : fn = Tryd.f6 := (Option.some.inj (Tryd.func6.symm.trans hfn)).symm
  refine ⟨by kernel_rfl, fun j t ht => ?_⟩
  rw [Tryd.params6] at ht
  have hm := Array.mem_of_getElem? ht
  simp only [List.mem_toArray, List.mem_cons, List.not_mem_nil, or_false] at hm
  rcases hm with rfl | rfl | rfl
  · exact (show Tryd.prog.wantsStandIn 22 = false by kernel_rfl)
  · exact (show Tryd.prog.wantsStandIn 22 = false by kernel_rfl)
  · exact (show Tryd.prog.wantsStandIn 4 = false by kernel_rfl)

/-- THE STATEMENT: the tied card -/
theorem card : Rows.ExprTwoCardSaid :=
  Claim7.holds_tied_plain_at .later [] _ _ _ _ said (fun _ h => by cases h) (by kernel_rfl) (fun _ h => by cases h) exprTwo_row_tie rfl ⟨rfl, rfl⟩ (by kernel_rfl) rfl plain (by kernel_rfl)
end Go.Proofs.YtmbdbmjnibfmgaaDoor.exprTwo
