/-
  What the proofs lean on, part 20 of 25.
-/
import Derived.Test.YtdmdcggmgipdbaaGreatDoorPo
import Derived.Test.YtdmdcggmgipdbaaGreatDoorPp
import Derived.Test.YtdmdcggmgipdbaaGreatDoorPr
import Derived.Test.YtdmdcggmgipdbaaGreatDoorPs
namespace Go.Proofs.YtdmdcggmgipdbaaGreatDoor.Ex
open Go.RowKit Kit Rw
open Go.Proofs.YtdmdcggmgipdbaaGreatDoor.Nm

theorem slice_toP (A : Option Addr) (n c l : Nat) (i : Int) (hi : i = l) (h : l ≤ c) (u : World) : (Instr.slice 123 (.slice A n c) none (some (.int .i64 i)) none).run Tryz.prog u = .ok (.slice A l c) u := by
  subst hi
  obtain ⟨i0, hi, hz0, hz1, hz2⟩ := info_parts pieceInfo
  simp [Instr.slice, run_underlying Tryz.underlying123, Instr.sliceBounds, Instr.sliceBound, asIntOf, sizeOf, typeInfo, hi, h, Addr.add]

theorem row_under {w w' : World} {base : Nat} {e : TypeId} {size : Nat} {v : Value} {n g9 : Nat} {xs : List Value} (h : w.ownsRow base e size v n xs) (gr : w.grownBy w' (some g9)) (hlt : ∀ k, v.ownBlock = some k → k < g9) : w'.ownsRow base e size v n xs :=
  h.kept gr (by
    cases hv : v.ownBlock with
    | none => exact .inl rfl
    | some k =>
      right
      intro e
      injection e with e
      have := hlt k hv
      omega)
theorem conv_out {w : World} {base : Nat} {o : Value} {ob : List UInt8} (h : w.ownsRow base 5 1 o ob.length (cellsB ob)) : (convert 117 9 o).run Tryz.prog w = .ok (.string ⟨ob.toArray⟩) w := by
  have h' := h
  obtain ⟨_, ⟨rfl, h0⟩ | ⟨g, c, cur, rfl, _⟩⟩ := h
  · obtain rfl := List.length_eq_zero_iff.1 h0
    rw [run_convert_bytes_string w 117 9 5 none 0 0 Tryz.underlying117 Tryz.underlying5 Tryz.underlying9]
    rfl
  · exact run_convert_bytes_back (P := Tryz.prog) _ 117 9 5 ⟨g, 0, none⟩ c ob Tryz.underlying117 Tryz.underlying5 Tryz.underlying9 (by
      intro j hj
      rw [add_zero_head, h'.cellAt j (by omega)]
      simp [cellsB, hj])
/-- where the loop of Text stands: what is written, what waits, and the blocks that stay as they are -/
structure TS (l : List Tg) (x : Ex) (w0 wr : World) (o v : Value) (ob : List UInt8) (ps : List Pc) : Prop where
  out : wr.ownsRow w0.heap.size 5 1 o ob.length (cellsB ob)
  row : wr.ownsRow w0.heap.size 121 2 v ps.length (cellsPc ps)
  q : Q w0 wr
  says : ob ++ pcsL l ps.reverse = x.text
  ok : ∀ p ∈ ps, PcOk l p
  work : pcsW l ps ≤ 10000

set_option maxRecDepth 100000 in
set_option maxHeartbeats 8000000 in
theorem text_any (A : Option Addr) (n c : Nat) (l : List Tg) (x : Ex) (w : World) (hn : n = l.length) (hr : Rds w w.heap.size A (cellsG l)) (hl : l.length ≤ 600) (hmay : ∀ t ∈ l, mayN t = true) (hs : runS [] l = some [x]) (htx : x.text.length ≤ 20000) :
    Calls Tryz.prog 42 #[.slice A n c] w fun e w' => e = .returned (.string ⟨x.text.toArray⟩) ∧ Q w w' := by
  subst hn
  obtain ⟨i0, hi, hz0, hz1, hz2⟩ := info_parts pieceInfo
  have Hi := Lib.hid hi
  have Hz0 := Lib.hid hz0
  have Hz1 := Lib.hid hz1
  have Hz2 := Lib.hid hz2
  obtain ⟨j0, hj, hy0, hy1, hy2⟩ := info_parts byteInfo
  have Hj := Lib.hid hj
  have Hy0 := Lib.hid hy0
  have Hy1 := Lib.hid hy1
  have Hy2 := Lib.hid hy2
  clear hi hz0 hz1 hz2 hj hy0 hy1 hy2
  have hpos : 0 < l.length := by
    cases l with
    | nil => injection hs with hs; cases hs
    | cons a l => simp
  obtain ⟨m, hml⟩ : ∃ m, l.length = m + 1 := ⟨l.length - 1, by omega⟩
  have htr : treeAt l m = some x := by
    unfold treeAt
    rw [← hml, List.take_length, hs]
    rfl
  have e1 : ((l.length : Nat) : Int) - 1 = (m : Int) := by omega
  have CL := Lib.hid (lay_any A l.length c l x w rfl hr (by omega) hmay hs)
  have HR := Lib.hid hr
  have HM := Lib.hid hmay
  have HS := Lib.hid hs
  have HT := Lib.hid htx
  have HTR := Lib.hid htr
  have HML := Lib.hid hml
  clear hr hmay hs htx htr hml
  go_enter Tryz.func42, Tryz.ntmps42
  go_upto_region 6 with (first
    | (go_at_call 70; refine CL.out.mono ?_; rintro e w1 ⟨S, rfl, hSR, q1⟩
       have HQ1 := Lib.hid q1
       have HSR := Lib.hid hSR
       have HBX := Lib.hid (own_new w1 [Value.slice A l.length c, Value.slice S l.length l.length] 112)
       have HQ2 := Lib.hid (q1.alloc (Obj.cells #[Value.slice A l.length c, Value.slice S l.length l.length] 112))
       have HQ12 := Lib.hid ((Q.refl w1).alloc (Obj.cells #[Value.slice A l.length c, Value.slice S l.length l.length] 112))
       clear q1 hSR)
    | (go_at_call 75; refine (texts_any _).mono ?_; rintro e w3 ⟨MB, rfl, q3, hlk⟩
       have HLK := Lib.hid hlk
       have HB3 := Lib.hid (HBX.out.q q3)
       have HQ3 := Lib.hid (HQ2.out.trans q3)
       have HS3 := Lib.hid (HSR.out.q (HQ12.out.trans q3))
       clear hlk q3))
  have HTB : Hid (x.text.length ≤ 20000) := HT
  clear CL HQ1 HQ2 HQ12 HSR HBX
  have CN : Hid (∀ (W : World) (j f : Nat) (hj : j < l.length) (sk : List Ex), Q w3 W → runS [] (l.take j) = some sk → (l[j].1, f) ∈ kinds7 → Calls Tryz.prog f #[.agg #[.slice A l.length c, .slice S l.length l.length], .int .i64 (j : Int)] W (NodePost l j hj sk W)) :=
    fun W j f hj sk q hsk hf => node_any A S l.length c l.length l.length l [x] j sk f W rfl rfl (HR.out.q (HQ3.out.trans q)) (HS3.out.q q) (by omega) HM.out HS.out hj hsk hf
  go_wp2_with (go_at_call 76; refine (textOf_any _ _).mono ?_; rintro e w4 ⟨rfl, q4⟩; have HQ4 := Lib.hid q4; clear q4)
  have hT0 : TS l x w3 (w4.alloc (Obj.cells #[.string ⟨#[]⟩, .int .i64 (m : Int)] 121)) (.slice none 0 0) (.slice (some ⟨w4.heap.size, 0, none⟩) 1 1) [] [atP m] := by
    refine ⟨World.ownsRow_nil _ _ _ _, ?_, HQ4.out.alloc _, ?_, ?_, ?_⟩
    · have := World.ownsRow_lit (base := w3.heap.size) (e := 121) (size := 2) w4 (cellsPc [atP m]).toArray 1 HQ4.out.size (by unfold maxLen; omega) (by rfl)
      exact this
    · simp only [List.reverse_cons, List.reverse_nil, List.nil_append, pcsL, pcL_at, List.append_nil]
      exact text_of HTR.out
    · intro p hp
      simp only [List.mem_cons, List.not_mem_nil, or_false] at hp
      exact .inr ⟨m, hp, by have := HML.out; omega⟩
    · simp only [pcsW, pcW_at, size_of HTR.out]
      have := tree_size_le HTR.out (by have := HML.out; omega)
      omega
  have HT0 := Lib.hid hT0
  clear hT0
  generalize w4.alloc (Obj.cells #[.string ⟨#[]⟩, .int .i64 (m : Int)] 121) = W4 at *
  go_loopw [5, 7] (fun o v wr => ∃ (ob : List UInt8) (ps : List Pc), Hid (TS l x w3 wr o v ob ps)) (fun _ v wr => pcsW l (pcsOf wr v))
  case atStart => exact ⟨[], [atP m], HT0⟩
  case round =>
    clear HT0 HQ4
    obtain ⟨ob, ps, HI⟩ := hrel
    have hmeas := pcsOf_row HI.out.row
    obtain ⟨A', c', rfl, _, _⟩ := own_read HI.out.out
    by_cases hps : ps = []
    · subst hps
      obtain ⟨A'', c'', rfl, _, _⟩ := own_read HI.out.row
      have hx : ob = x.text := by
        have h1 := HI.out.says
        simpa [pcsL] using h1
      have hcv := conv_out HI.out.out
      have HQe := Lib.hid (HQ3.out.trans HI.out.q)
      have HXe := Lib.hid hx
      clear hx CN hmeas
      go_wp2_with fail
      go_ret
      exact ⟨by rw [← HXe.out]; rfl, HQe.out⟩
    · obtain ⟨ps', p, rfl⟩ : ∃ ps' p, ps = ps' ++ [p] := ⟨ps.dropLast, ps.getLast hps, (List.dropLast_concat_getLast hps).symm⟩
      clear hps
      have hok := HI.out.ok p (by simp)
      have hlen : (ps' ++ [p]).length = ps'.length + 1 := by simp
      have hrow := HI.out.row
      rw [hlen] at hrow
      obtain ⟨g, cap, rfl⟩ := own_slice hrow (by omega)
      have HRow := Lib.hid hrow
      obtain ⟨p0, p1⟩ := pcs_last hrow
      have hcap : ps'.length + 1 ≤ cap := by
        obtain ⟨A'', c'', e, h, _⟩ := own_read hrow
        injection e with _ _ e
        omega
      have e1 : ((ps'.length + 1 : Nat) : Int) - 1 = (ps'.length : Int) := by omega
      have hsl := slice_toP (some ⟨g, 0, none⟩) (ps'.length + 1) cap ps'.length ps'.length rfl (by omega)
      have hwk : ps'.length ≤ 10000 := by
        have h1 := pcsW_len HS.out HI.out.ok
        have h2 := HI.out.work
        omega
      clear hrow hlen
      rcases hok with ⟨s, rfl⟩ | ⟨j, rfl, hj⟩
      · have HSz : Hid (ob.length + s.size ≤ 20000) := by
          have h1 := HI.out.says
          have h2 := HTB.out
          rw [← h1] at h2
          simp only [List.reverse_append, List.reverse_cons, List.reverse_nil, List.nil_append, List.cons_append, pcsL, pcL_say, List.length_append] at h2
          have h3 : s.data.toList.length = s.size := by simp
          exact Lib.hid (by omega)
        have p0' : wr.cell? ⟨g, ps'.length * 2, none⟩ = some (.string s) := p0
        have p1' : wr.cell? ⟨g, ps'.length * 2 + 1, none⟩ = some (.int .i64 (-1)) := p1
        have HN := Lib.hid (own_new wr [.string s, .int .i64 (-1)] 121)
        have n0 := (HN.out.2 0 _ rfl).1
        have n1 := (HN.out.2 1 _ rfl).1
        have HO := Lib.hid (HI.out.out.alloc (Obj.cells #[.string s, .int .i64 (-1)] 121))
        have HQ5 := Lib.hid (HI.out.q.alloc (Obj.cells #[.string s, .int .i64 (-1)] 121))
        have hz := HSz.out
        clear p0 p1
        go_wp2_with (at_builtin; refine Lib.wpList_append_own_string _ rfl (.tmp 40) (.tmp 42) 117 9 rfl w3.heap.size 5 j0 Tryz.underlying117 Tryz.underlying9 Hj.out Hy0.out Hy1.out Hy2.out _ ob.length (cellsB ob) rfl HO.out s rfl (by unfold maxLen; omega) (by omega) HQ5.out.size ?_; intro v' w' own' gr' _)
        have hnew : TS l x w3 w' v' (.slice (some ⟨g, 0, none⟩) ps'.length cap) (ob ++ s.data.toList) ps' := by
          have hrw : (wr.alloc (Obj.cells #[.string s, .int .i64 (-1)] 121)).ownsRow w3.heap.size 121 2 (.slice (some ⟨g, 0, none⟩) ps'.length cap) ps'.length (cellsPc ps') := (pcs_pop HRow.out).alloc _
          have e3 : (ob ++ s.data.toList).length = ob.length + s.size := by simp
          refine ⟨?_, hrw.kept gr' (rows_apart hrw HO.out (by decide)), Below.grown HQ5.out gr' HQ5.out.size (fun k e => (HO.out.lt k e).1), ?_, fun p hp => HI.out.ok p (by simp [hp]), ?_⟩
          · rw [e3, cellsB_app]; exact own'
          · have h1 := HI.out.says
            rw [← h1]
            simp [pcsL, pcL_say]
          · have h1 := HI.out.work
            rw [pcsW_app] at h1
            omega
        have HNew := Lib.hid hnew
        clear hnew own' gr'
        go_roundw
        case rel => exact ⟨_, _, HNew⟩
        case measure =>
          rw [pcsOf_row HNew.out.row, hmeas, pcsW_app]
          simp [pcsW, pcW_say]
      · obtain ⟨sk, hsk⟩ := run_take HS.out j
        obtain ⟨htj, hnp⟩ := tree_at HS.out hj hsk
        have hmj := HM.out l[j] (List.getElem_mem hj)
        obtain ⟨f, hf⟩ : ∃ f, (l[j].1, f) ∈ kinds7 := by
          rcases may_kinds hmj with h | h | h | h | h | h | h <;> (rw [h]; exact ⟨_, by simp [kinds7]; rfl⟩)
        have p0' : wr.cell? ⟨g, ps'.length * 2, none⟩ = some (.string ⟨#[]⟩) := p0
        have p1' : wr.cell? ⟨g, ps'.length * 2 + 1, none⟩ = some (.int .i64 (j : Int)) := p1
        have ej : ((j : Int) == -1) = false := beq_eq_false_iff_ne.2 (by omega)
        have ej2 : decide ((j : Int) = -1) = false := decide_eq_false (by omega)
        obtain ⟨W5, hW5⟩ : ∃ W5, W5 = wr.alloc (Obj.cells #[.string ⟨#[]⟩, .int .i64 (j : Int)] 121) := ⟨_, rfl⟩
        have HQ5 : Hid (Q w3 W5) := by rw [hW5]; exact HI.out.q.alloc _
        have n1 : W5.cell? ⟨wr.heap.size, 1, none⟩ = some (.int .i64 (j : Int)) := by rw [hW5]; exact ((own_new wr [.string ⟨#[]⟩, .int .i64 (j : Int)] 121).2 1 _ rfl).1
        have hlt5 : wr.heap.size < W5.heap.size := by rw [hW5]; simp
        have HO5 : Hid (W5.ownsRow w3.heap.size 5 1 (.slice A' ob.length c') ob.length (cellsB ob)) := by rw [hW5]; exact HI.out.out.alloc _
        have HR5 : Hid (W5.ownsRow w3.heap.size 121 2 (.slice (some ⟨g, 0, none⟩) ps'.length cap) ps'.length (cellsPc ps')) := by rw [hW5]; exact (pcs_pop HRow.out).alloc _
        obtain ⟨ad, rfl, hb, k0, _, _⟩ := tok_at (HR.out.q (HQ3.out.trans HQ5.out)) hj
        have r0 := ((HB3.out.q HQ5.out).2 0 _ rfl).1
        have r1 := ((HB3.out.q HQ5.out).2 1 _ rfl).1
        have hlt1 := (HB3.out.q HQ5.out).1
        have HLKf : Hid (∀ W, Q W5 W → (Instr.lookup 118 (.map (some MB)) (.int .i64 l[j].1) false).run Tryz.prog W = .ok (.func (.func f) #[] #[]) W) := fun W q => HLK.out W (HQ5.out.trans q) _ _ hf
        have CF : Hid (∀ W : World, Q w3 W → Calls Tryz.prog f #[.agg #[.slice (some ad) l.length c, .slice S l.length l.length], .int .i64 (j : Int)] W (NodePost l j hj sk W)) := fun W q => CN.out W j f hj sk q hsk hf
        have HPA : Hid (∀ K, Ends l j (sk.take (np l[j])).reverse K → NearK j K → pcsL l (pcs l l[j] j K) = textAt l j ∧ pcsW l (pcs l l[j] j K) < 16 * sizeAt l j ∧ (∀ p ∈ pcs l l[j] j K, PcOk l p) ∧ (pcs l l[j] j K).length ≤ 20) := fun K hE hN => pcs_all HS.out hj hmj hsk hE hN
        have Hmj : Hid (pcW l (atP j) = 16 * sizeAt l j) := pcW_at l j
        have HX : Hid (∀ W, Q W5 W → W.cell? ⟨wr.heap.size, 1, none⟩ = some (.int .i64 (j : Int)) ∧ W.cell? ⟨w1.heap.size, 0, none⟩ = some (.slice (some ad) l.length c) ∧ W.cell? ⟨w1.heap.size, 1, none⟩ = some (.slice S l.length l.length) ∧ W.cell? (ad.add (j * 3)) = some (.int .i64 l[j].1) ∧ (Instr.lookup 118 (.map (some MB)) (.int .i64 l[j].1) false).run Tryz.prog W = .ok (.func (.func f) #[] #[]) W) :=
          fun W q => ⟨(q.cell (p := ⟨wr.heap.size, 1, none⟩) hlt5).trans n1, (q.cell (p := ⟨w1.heap.size, 0, none⟩) hlt1).trans r0, (q.cell (p := ⟨w1.heap.size, 1, none⟩) hlt1).trans r1, (q.cell (p := ad.add (j * 3)) (by rw [add_block]; exact hb)).trans k0, HLKf.out W q⟩
        clear p0 p1 hsk htj hnp hmj HLKf
        simp only [kinds7, List.mem_cons, List.not_mem_nil, or_false, Prod.mk.injEq] at hf
        generalize l[j].1 = kd at *
        go_upto_region 12 with fail
        rw [← hW5]
        have HW5 : Hid (g < W5.heap.size) := Lib.hid (HR5.out.lt g rfl).2
        have HO5b : Hid (∀ k, (Value.slice A' ob.length c').ownBlock = some k → k < W5.heap.size) := Lib.hid fun k e => (HO5.out.lt k e).2
        clear hW5
        rcases hf with ⟨hk, rfl⟩ | ⟨hk, rfl⟩ | ⟨hk, rfl⟩ | ⟨hk, rfl⟩ | ⟨hk, rfl⟩ | ⟨hk, rfl⟩ | ⟨hk, rfl⟩
        · clear hk
          go_region_held3 (fun w' => w'.cell? ⟨wr.heap.size, 1, none⟩ = some (.int .i64 (j : Int)) ∧ w'.cell? ⟨w1.heap.size, 0, none⟩ = some (.slice (some ad) l.length c) ∧ w'.cell? ⟨w1.heap.size, 1, none⟩ = some (.slice S l.length l.length) ∧ w'.cell? (ad.add (j * 3)) = some (.int .i64 kd) ∧ (Instr.lookup 118 (.map (some MB)) (.int .i64 kd) false).run Tryz.prog w' = .ok (.func (.func 90) #[] #[]) w')
            (first
              | (with_reducible exact HX.out _ p6)
              | (with_reducible exact HX.out _ ((Q.refl W5).drew))
              | go_keep)
            (first | (go_at_call 90; refine (CF.out _ (HQ5.out.drew)).mono ?_; rintro e w6 ⟨K, hE, hN, g9, cap9, rfl, own9, q9⟩; have p6 := (Q.refl W5).drew.trans q9; have HP6 := Lib.hid (HPA.out K hE hN); clear hE hN))
          obtain ⟨ht1, ht2, ht3, ht4⟩ := HP6.out
          clear HP6
          generalize pcs l l[j] j K = pk at *
          have HT1 := Lib.hid ht1
          have HT2 := Lib.hid ht2
          have HT3 := Lib.hid ht3
          have hg9 : W5.heap.size ≤ g9 := (own9.lt g9 rfl).1
          have HG9 := Lib.hid hg9
          have HRow6 := Lib.hid (row_kept HR5.out p6 (Nat.le_refl _))
          have HO6 := Lib.hid (row_kept HO5.out p6 (Nat.le_refl _))
          have HQ6 := Lib.hid (HQ5.out.trans p6)
          have HC9 := Lib.hid (OwnC.of_row own9)
          clear ht1 ht2 ht3 own9 q9 p6 HX CF HPA hg9 n1 r0 r1 k0
          go_wp2_with (first
            | (go_at_call 77; refine (reverse_pcs g9 _ cap9 pk w6 rfl HC9.out (by omega)).mono ?_; rintro e w7 ⟨⟨v7, rfl⟩, ho7, gr7⟩
               have HC7 := Lib.hid ho7
               have HRow7 := Lib.hid (row_under HRow6.out gr7 (fun k e => by have h1 := HW5.out; have h2 := HG9.out; have h3 : g = k := by injection e
                                                                             omega))
               have HO7 := Lib.hid (row_under HO6.out gr7 (fun k e => Nat.lt_of_lt_of_le (HO5b.out k e) HG9.out))
               have HQ7 := Lib.hid (grown_q gr7 HQ6.out (Nat.le_trans HQ5.out.size HG9.out))
               clear ho7 gr7)
            | (at_builtin; refine wpList_append_src _ rfl (.tmp 58) (.tmp 59) _ rfl w3.heap.size 121 i0 _ 2 24 Tryz.underlying123 Hi.out Hz0.out Hz1.out Hz2.out rfl (by omega) (.slice (some ⟨g, 0, none⟩) ps'.length cap) ps'.length (cellsPc ps') rfl HRow7.out (some ⟨g9, 0, none⟩) pk.length cap9 (cellsPc pk.reverse) rfl (by rw [cellsPc_len, List.length_reverse]) HC7.out.rds.src (cellsPc_one _) (by unfold maxLen; omega) (by omega) HQ7.out.size ?_; intro v' w' own' gr' _))
          have hnew : TS l x w3 w' (.slice A' ob.length c') v' ob (ps' ++ pk.reverse) := by
            refine ⟨HO7.out.kept gr' (rows_apart HO7.out HRow7.out (by decide)), ?_, Below.grown HQ7.out gr' HQ7.out.size (fun k e => (HRow7.out.lt k e).1), ?_, fun p hp => ?_, ?_⟩
            · rw [List.length_append, List.length_reverse, cellsPc_app]; exact own'
            · have h1 := HI.out.says
              rw [← h1]
              simp only [List.reverse_append, List.reverse_reverse, List.reverse_cons, List.reverse_nil, List.nil_append, List.cons_append, pcsL_app, pcsL, pcL_at, HT1.out]
            · rcases List.mem_append.1 hp with h | h
              · exact HI.out.ok p (by simp [h])
              · exact HT3.out p (List.mem_reverse.1 h)
            · have h1 := HI.out.work
              have h2 := HT2.out
              have h3 := Hmj.out
              rw [pcsW_app] at h1 ⊢
              rw [pcsW_rev]
              simp only [pcsW] at h1
              omega
          have HNew := Lib.hid hnew
          clear hnew own' gr'
          go_roundw
          case rel => exact ⟨_, _, HNew⟩
          case measure =>
            have h2 := HT2.out
            have h3 := Hmj.out
            rw [pcsOf_row HNew.out.row, hmeas, pcsW_app, pcsW_app, pcsW_rev]
            simp only [pcsW]
            omega
        · clear hk
          go_region_held3 (fun w' => w'.cell? ⟨wr.heap.size, 1, none⟩ = some (.int .i64 (j : Int)) ∧ w'.cell? ⟨w1.heap.size, 0, none⟩ = some (.slice (some ad) l.length c) ∧ w'.cell? ⟨w1.heap.size, 1, none⟩ = some (.slice S l.length l.length) ∧ w'.cell? (ad.add (j * 3)) = some (.int .i64 kd) ∧ (Instr.lookup 118 (.map (some MB)) (.int .i64 kd) false).run Tryz.prog w' = .ok (.func (.func 91) #[] #[]) w')
            (first
              | (with_reducible exact HX.out _ p6)
              | (with_reducible exact HX.out _ ((Q.refl W5).drew))
              | go_keep)
            (first | (go_at_call 91; refine (CF.out _ (HQ5.out.drew)).mono ?_; rintro e w6 ⟨K, hE, hN, g9, cap9, rfl, own9, q9⟩; have p6 := (Q.refl W5).drew.trans q9; have HP6 := Lib.hid (HPA.out K hE hN); clear hE hN))
          obtain ⟨ht1, ht2, ht3, ht4⟩ := HP6.out
          clear HP6
          generalize pcs l l[j] j K = pk at *
          have HT1 := Lib.hid ht1
          have HT2 := Lib.hid ht2
          have HT3 := Lib.hid ht3
          have hg9 : W5.heap.size ≤ g9 := (own9.lt g9 rfl).1
          have HG9 := Lib.hid hg9
          have HRow6 := Lib.hid (row_kept HR5.out p6 (Nat.le_refl _))
          have HO6 := Lib.hid (row_kept HO5.out p6 (Nat.le_refl _))
          have HQ6 := Lib.hid (HQ5.out.trans p6)
          have HC9 := Lib.hid (OwnC.of_row own9)
          clear ht1 ht2 ht3 own9 q9 p6 HX CF HPA hg9 n1 r0 r1 k0
          go_wp2_with (first
            | (go_at_call 77; refine (reverse_pcs g9 _ cap9 pk w6 rfl HC9.out (by omega)).mono ?_; rintro e w7 ⟨⟨v7, rfl⟩, ho7, gr7⟩
               have HC7 := Lib.hid ho7
               have HRow7 := Lib.hid (row_under HRow6.out gr7 (fun k e => by have h1 := HW5.out; have h2 := HG9.out; have h3 : g = k := by injection e
                                                                             omega))
               have HO7 := Lib.hid (row_under HO6.out gr7 (fun k e => Nat.lt_of_lt_of_le (HO5b.out k e) HG9.out))
               have HQ7 := Lib.hid (grown_q gr7 HQ6.out (Nat.le_trans HQ5.out.size HG9.out))
               clear ho7 gr7)
            | (at_builtin; refine wpList_append_src _ rfl (.tmp 58) (.tmp 59) _ rfl w3.heap.size 121 i0 _ 2 24 Tryz.underlying123 Hi.out Hz0.out Hz1.out Hz2.out rfl (by omega) (.slice (some ⟨g, 0, none⟩) ps'.length cap) ps'.length (cellsPc ps') rfl HRow7.out (some ⟨g9, 0, none⟩) pk.length cap9 (cellsPc pk.reverse) rfl (by rw [cellsPc_len, List.length_reverse]) HC7.out.rds.src (cellsPc_one _) (by unfold maxLen; omega) (by omega) HQ7.out.size ?_; intro v' w' own' gr' _))
          have hnew : TS l x w3 w' (.slice A' ob.length c') v' ob (ps' ++ pk.reverse) := by
            refine ⟨HO7.out.kept gr' (rows_apart HO7.out HRow7.out (by decide)), ?_, Below.grown HQ7.out gr' HQ7.out.size (fun k e => (HRow7.out.lt k e).1), ?_, fun p hp => ?_, ?_⟩
            · rw [List.length_append, List.length_reverse, cellsPc_app]; exact own'
            · have h1 := HI.out.says
              rw [← h1]
              simp only [List.reverse_append, List.reverse_reverse, List.reverse_cons, List.reverse_nil, List.nil_append, List.cons_append, pcsL_app, pcsL, pcL_at, HT1.out]
            · rcases List.mem_append.1 hp with h | h
              · exact HI.out.ok p (by simp [h])
              · exact HT3.out p (List.mem_reverse.1 h)
            · have h1 := HI.out.work
              have h2 := HT2.out
              have h3 := Hmj.out
              rw [pcsW_app] at h1 ⊢
              rw [pcsW_rev]
              simp only [pcsW] at h1
              omega
          have HNew := Lib.hid hnew
          clear hnew own' gr'
          go_roundw
          case rel => exact ⟨_, _, HNew⟩
          case measure =>
            have h2 := HT2.out
            have h3 := Hmj.out
            rw [pcsOf_row HNew.out.row, hmeas, pcsW_app, pcsW_app, pcsW_rev]
            simp only [pcsW]
            omega
        · clear hk
          go_region_held3 (fun w' => w'.cell? ⟨wr.heap.size, 1, none⟩ = some (.int .i64 (j : Int)) ∧ w'.cell? ⟨w1.heap.size, 0, none⟩ = some (.slice (some ad) l.length c) ∧ w'.cell? ⟨w1.heap.size, 1, none⟩ = some (.slice S l.length l.length) ∧ w'.cell? (ad.add (j * 3)) = some (.int .i64 kd) ∧ (Instr.lookup 118 (.map (some MB)) (.int .i64 kd) false).run Tryz.prog w' = .ok (.func (.func 92) #[] #[]) w')
            (first
              | (with_reducible exact HX.out _ p6)
              | (with_reducible exact HX.out _ ((Q.refl W5).drew))
              | go_keep)
            (first | (go_at_call 92; refine (CF.out _ (HQ5.out.drew)).mono ?_; rintro e w6 ⟨K, hE, hN, g9, cap9, rfl, own9, q9⟩; have p6 := (Q.refl W5).drew.trans q9; have HP6 := Lib.hid (HPA.out K hE hN); clear hE hN))
          obtain ⟨ht1, ht2, ht3, ht4⟩ := HP6.out
          clear HP6
          generalize pcs l l[j] j K = pk at *
          have HT1 := Lib.hid ht1
          have HT2 := Lib.hid ht2
          have HT3 := Lib.hid ht3
          have hg9 : W5.heap.size ≤ g9 := (own9.lt g9 rfl).1
          have HG9 := Lib.hid hg9
          have HRow6 := Lib.hid (row_kept HR5.out p6 (Nat.le_refl _))
          have HO6 := Lib.hid (row_kept HO5.out p6 (Nat.le_refl _))
          have HQ6 := Lib.hid (HQ5.out.trans p6)
          have HC9 := Lib.hid (OwnC.of_row own9)
          clear ht1 ht2 ht3 own9 q9 p6 HX CF HPA hg9 n1 r0 r1 k0
          go_wp2_with (first
            | (go_at_call 77; refine (reverse_pcs g9 _ cap9 pk w6 rfl HC9.out (by omega)).mono ?_; rintro e w7 ⟨⟨v7, rfl⟩, ho7, gr7⟩
               have HC7 := Lib.hid ho7
               have HRow7 := Lib.hid (row_under HRow6.out gr7 (fun k e => by have h1 := HW5.out; have h2 := HG9.out; have h3 : g = k := by injection e
                                                                             omega))
               have HO7 := Lib.hid (row_under HO6.out gr7 (fun k e => Nat.lt_of_lt_of_le (HO5b.out k e) HG9.out))
               have HQ7 := Lib.hid (grown_q gr7 HQ6.out (Nat.le_trans HQ5.out.size HG9.out))
               clear ho7 gr7)
            | (at_builtin; refine wpList_append_src _ rfl (.tmp 58) (.tmp 59) _ rfl w3.heap.size 121 i0 _ 2 24 Tryz.underlying123 Hi.out Hz0.out Hz1.out Hz2.out rfl (by omega) (.slice (some ⟨g, 0, none⟩) ps'.length cap) ps'.length (cellsPc ps') rfl HRow7.out (some ⟨g9, 0, none⟩) pk.length cap9 (cellsPc pk.reverse) rfl (by rw [cellsPc_len, List.length_reverse]) HC7.out.rds.src (cellsPc_one _) (by unfold maxLen; omega) (by omega) HQ7.out.size ?_; intro v' w' own' gr' _))
          have hnew : TS l x w3 w' (.slice A' ob.length c') v' ob (ps' ++ pk.reverse) := by
            refine ⟨HO7.out.kept gr' (rows_apart HO7.out HRow7.out (by decide)), ?_, Below.grown HQ7.out gr' HQ7.out.size (fun k e => (HRow7.out.lt k e).1), ?_, fun p hp => ?_, ?_⟩
            · rw [List.length_append, List.length_reverse, cellsPc_app]; exact own'
            · have h1 := HI.out.says
              rw [← h1]
              simp only [List.reverse_append, List.reverse_reverse, List.reverse_cons, List.reverse_nil, List.nil_append, List.cons_append, pcsL_app, pcsL, pcL_at, HT1.out]
            · rcases List.mem_append.1 hp with h | h
              · exact HI.out.ok p (by simp [h])
              · exact HT3.out p (List.mem_reverse.1 h)
            · have h1 := HI.out.work
              have h2 := HT2.out
              have h3 := Hmj.out
              rw [pcsW_app] at h1 ⊢
              rw [pcsW_rev]
              simp only [pcsW] at h1
              omega
          have HNew := Lib.hid hnew
          clear hnew own' gr'
          go_roundw
          case rel => exact ⟨_, _, HNew⟩
          case measure =>
            have h2 := HT2.out
            have h3 := Hmj.out
            rw [pcsOf_row HNew.out.row, hmeas, pcsW_app, pcsW_app, pcsW_rev]
            simp only [pcsW]
            omega
        · clear hk
          go_region_held3 (fun w' => w'.cell? ⟨wr.heap.size, 1, none⟩ = some (.int .i64 (j : Int)) ∧ w'.cell? ⟨w1.heap.size, 0, none⟩ = some (.slice (some ad) l.length c) ∧ w'.cell? ⟨w1.heap.size, 1, none⟩ = some (.slice S l.length l.length) ∧ w'.cell? (ad.add (j * 3)) = some (.int .i64 kd) ∧ (Instr.lookup 118 (.map (some MB)) (.int .i64 kd) false).run Tryz.prog w' = .ok (.func (.func 93) #[] #[]) w')
            (first
              | (with_reducible exact HX.out _ p6)
              | (with_reducible exact HX.out _ ((Q.refl W5).drew))
              | go_keep)
            (first | (go_at_call 93; refine (CF.out _ (HQ5.out.drew)).mono ?_; rintro e w6 ⟨K, hE, hN, g9, cap9, rfl, own9, q9⟩; have p6 := (Q.refl W5).drew.trans q9; have HP6 := Lib.hid (HPA.out K hE hN); clear hE hN))
          obtain ⟨ht1, ht2, ht3, ht4⟩ := HP6.out
          clear HP6
          generalize pcs l l[j] j K = pk at *
          have HT1 := Lib.hid ht1
          have HT2 := Lib.hid ht2
          have HT3 := Lib.hid ht3
          have hg9 : W5.heap.size ≤ g9 := (own9.lt g9 rfl).1
          have HG9 := Lib.hid hg9
          have HRow6 := Lib.hid (row_kept HR5.out p6 (Nat.le_refl _))
          have HO6 := Lib.hid (row_kept HO5.out p6 (Nat.le_refl _))
          have HQ6 := Lib.hid (HQ5.out.trans p6)
          have HC9 := Lib.hid (OwnC.of_row own9)
          clear ht1 ht2 ht3 own9 q9 p6 HX CF HPA hg9 n1 r0 r1 k0
          go_wp2_with (first
            | (go_at_call 77; refine (reverse_pcs g9 _ cap9 pk w6 rfl HC9.out (by omega)).mono ?_; rintro e w7 ⟨⟨v7, rfl⟩, ho7, gr7⟩
               have HC7 := Lib.hid ho7
               have HRow7 := Lib.hid (row_under HRow6.out gr7 (fun k e => by have h1 := HW5.out; have h2 := HG9.out; have h3 : g = k := by injection e
                                                                             omega))
               have HO7 := Lib.hid (row_under HO6.out gr7 (fun k e => Nat.lt_of_lt_of_le (HO5b.out k e) HG9.out))
               have HQ7 := Lib.hid (grown_q gr7 HQ6.out (Nat.le_trans HQ5.out.size HG9.out))
               clear ho7 gr7)
            | (at_builtin; refine wpList_append_src _ rfl (.tmp 58) (.tmp 59) _ rfl w3.heap.size 121 i0 _ 2 24 Tryz.underlying123 Hi.out Hz0.out Hz1.out Hz2.out rfl (by omega) (.slice (some ⟨g, 0, none⟩) ps'.length cap) ps'.length (cellsPc ps') rfl HRow7.out (some ⟨g9, 0, none⟩) pk.length cap9 (cellsPc pk.reverse) rfl (by rw [cellsPc_len, List.length_reverse]) HC7.out.rds.src (cellsPc_one _) (by unfold maxLen; omega) (by omega) HQ7.out.size ?_; intro v' w' own' gr' _))
          have hnew : TS l x w3 w' (.slice A' ob.length c') v' ob (ps' ++ pk.reverse) := by
            refine ⟨HO7.out.kept gr' (rows_apart HO7.out HRow7.out (by decide)), ?_, Below.grown HQ7.out gr' HQ7.out.size (fun k e => (HRow7.out.lt k e).1), ?_, fun p hp => ?_, ?_⟩
            · rw [List.length_append, List.length_reverse, cellsPc_app]; exact own'
            · have h1 := HI.out.says
              rw [← h1]
              simp only [List.reverse_append, List.reverse_reverse, List.reverse_cons, List.reverse_nil, List.nil_append, List.cons_append, pcsL_app, pcsL, pcL_at, HT1.out]
            · rcases List.mem_append.1 hp with h | h
              · exact HI.out.ok p (by simp [h])
              · exact HT3.out p (List.mem_reverse.1 h)
            · have h1 := HI.out.work
              have h2 := HT2.out
              have h3 := Hmj.out
              rw [pcsW_app] at h1 ⊢
              rw [pcsW_rev]
              simp only [pcsW] at h1
              omega
          have HNew := Lib.hid hnew
          clear hnew own' gr'
          go_roundw
          case rel => exact ⟨_, _, HNew⟩
          case measure =>
            have h2 := HT2.out
            have h3 := Hmj.out
            rw [pcsOf_row HNew.out.row, hmeas, pcsW_app, pcsW_app, pcsW_rev]
            simp only [pcsW]
            omega
        · clear hk
          go_region_held3 (fun w' => w'.cell? ⟨wr.heap.size, 1, none⟩ = some (.int .i64 (j : Int)) ∧ w'.cell? ⟨w1.heap.size, 0, none⟩ = some (.slice (some ad) l.length c) ∧ w'.cell? ⟨w1.heap.size, 1, none⟩ = some (.slice S l.length l.length) ∧ w'.cell? (ad.add (j * 3)) = some (.int .i64 kd) ∧ (Instr.lookup 118 (.map (some MB)) (.int .i64 kd) false).run Tryz.prog w' = .ok (.func (.func 94) #[] #[]) w')
            (first
              | (with_reducible exact HX.out _ p6)
              | (with_reducible exact HX.out _ ((Q.refl W5).drew))
              | go_keep)
            (first | (go_at_call 94; refine (CF.out _ (HQ5.out.drew)).mono ?_; rintro e w6 ⟨K, hE, hN, g9, cap9, rfl, own9, q9⟩; have p6 := (Q.refl W5).drew.trans q9; have HP6 := Lib.hid (HPA.out K hE hN); clear hE hN))
          obtain ⟨ht1, ht2, ht3, ht4⟩ := HP6.out
          clear HP6
          generalize pcs l l[j] j K = pk at *
          have HT1 := Lib.hid ht1
          have HT2 := Lib.hid ht2
          have HT3 := Lib.hid ht3
          have hg9 : W5.heap.size ≤ g9 := (own9.lt g9 rfl).1
          have HG9 := Lib.hid hg9
          have HRow6 := Lib.hid (row_kept HR5.out p6 (Nat.le_refl _))
          have HO6 := Lib.hid (row_kept HO5.out p6 (Nat.le_refl _))
          have HQ6 := Lib.hid (HQ5.out.trans p6)
          have HC9 := Lib.hid (OwnC.of_row own9)
          clear ht1 ht2 ht3 own9 q9 p6 HX CF HPA hg9 n1 r0 r1 k0
          go_wp2_with (first
            | (go_at_call 77; refine (reverse_pcs g9 _ cap9 pk w6 rfl HC9.out (by omega)).mono ?_; rintro e w7 ⟨⟨v7, rfl⟩, ho7, gr7⟩
               have HC7 := Lib.hid ho7
               have HRow7 := Lib.hid (row_under HRow6.out gr7 (fun k e => by have h1 := HW5.out; have h2 := HG9.out; have h3 : g = k := by injection e
                                                                             omega))
               have HO7 := Lib.hid (row_under HO6.out gr7 (fun k e => Nat.lt_of_lt_of_le (HO5b.out k e) HG9.out))
               have HQ7 := Lib.hid (grown_q gr7 HQ6.out (Nat.le_trans HQ5.out.size HG9.out))
               clear ho7 gr7)
            | (at_builtin; refine wpList_append_src _ rfl (.tmp 58) (.tmp 59) _ rfl w3.heap.size 121 i0 _ 2 24 Tryz.underlying123 Hi.out Hz0.out Hz1.out Hz2.out rfl (by omega) (.slice (some ⟨g, 0, none⟩) ps'.length cap) ps'.length (cellsPc ps') rfl HRow7.out (some ⟨g9, 0, none⟩) pk.length cap9 (cellsPc pk.reverse) rfl (by rw [cellsPc_len, List.length_reverse]) HC7.out.rds.src (cellsPc_one _) (by unfold maxLen; omega) (by omega) HQ7.out.size ?_; intro v' w' own' gr' _))
          have hnew : TS l x w3 w' (.slice A' ob.length c') v' ob (ps' ++ pk.reverse) := by
            refine ⟨HO7.out.kept gr' (rows_apart HO7.out HRow7.out (by decide)), ?_, Below.grown HQ7.out gr' HQ7.out.size (fun k e => (HRow7.out.lt k e).1), ?_, fun p hp => ?_, ?_⟩
            · rw [List.length_append, List.length_reverse, cellsPc_app]; exact own'
            · have h1 := HI.out.says
              rw [← h1]
              simp only [List.reverse_append, List.reverse_reverse, List.reverse_cons, List.reverse_nil, List.nil_append, List.cons_append, pcsL_app, pcsL, pcL_at, HT1.out]
            · rcases List.mem_append.1 hp with h | h
              · exact HI.out.ok p (by simp [h])
              · exact HT3.out p (List.mem_reverse.1 h)
            · have h1 := HI.out.work
              have h2 := HT2.out
              have h3 := Hmj.out
              rw [pcsW_app] at h1 ⊢
              rw [pcsW_rev]
              simp only [pcsW] at h1
              omega
          have HNew := Lib.hid hnew
          clear hnew own' gr'
          go_roundw
          case rel => exact ⟨_, _, HNew⟩
          case measure =>
            have h2 := HT2.out
            have h3 := Hmj.out
            rw [pcsOf_row HNew.out.row, hmeas, pcsW_app, pcsW_app, pcsW_rev]
            simp only [pcsW]
            omega
        · clear hk
          go_region_held3 (fun w' => w'.cell? ⟨wr.heap.size, 1, none⟩ = some (.int .i64 (j : Int)) ∧ w'.cell? ⟨w1.heap.size, 0, none⟩ = some (.slice (some ad) l.length c) ∧ w'.cell? ⟨w1.heap.size, 1, none⟩ = some (.slice S l.length l.length) ∧ w'.cell? (ad.add (j * 3)) = some (.int .i64 kd) ∧ (Instr.lookup 118 (.map (some MB)) (.int .i64 kd) false).run Tryz.prog w' = .ok (.func (.func 95) #[] #[]) w')
            (first
              | (with_reducible exact HX.out _ p6)
              | (with_reducible exact HX.out _ ((Q.refl W5).drew))
              | go_keep)
            (first | (go_at_call 95; refine (CF.out _ (HQ5.out.drew)).mono ?_; rintro e w6 ⟨K, hE, hN, g9, cap9, rfl, own9, q9⟩; have p6 := (Q.refl W5).drew.trans q9; have HP6 := Lib.hid (HPA.out K hE hN); clear hE hN))
          obtain ⟨ht1, ht2, ht3, ht4⟩ := HP6.out
          clear HP6
          generalize pcs l l[j] j K = pk at *
          have HT1 := Lib.hid ht1
          have HT2 := Lib.hid ht2
          have HT3 := Lib.hid ht3
          have hg9 : W5.heap.size ≤ g9 := (own9.lt g9 rfl).1
          have HG9 := Lib.hid hg9
          have HRow6 := Lib.hid (row_kept HR5.out p6 (Nat.le_refl _))
          have HO6 := Lib.hid (row_kept HO5.out p6 (Nat.le_refl _))
          have HQ6 := Lib.hid (HQ5.out.trans p6)
          have HC9 := Lib.hid (OwnC.of_row own9)
          clear ht1 ht2 ht3 own9 q9 p6 HX CF HPA hg9 n1 r0 r1 k0
          go_wp2_with (first
            | (go_at_call 77; refine (reverse_pcs g9 _ cap9 pk w6 rfl HC9.out (by omega)).mono ?_; rintro e w7 ⟨⟨v7, rfl⟩, ho7, gr7⟩
               have HC7 := Lib.hid ho7
               have HRow7 := Lib.hid (row_under HRow6.out gr7 (fun k e => by have h1 := HW5.out; have h2 := HG9.out; have h3 : g = k := by injection e
                                                                             omega))
               have HO7 := Lib.hid (row_under HO6.out gr7 (fun k e => Nat.lt_of_lt_of_le (HO5b.out k e) HG9.out))
               have HQ7 := Lib.hid (grown_q gr7 HQ6.out (Nat.le_trans HQ5.out.size HG9.out))
               clear ho7 gr7)
            | (at_builtin; refine wpList_append_src _ rfl (.tmp 58) (.tmp 59) _ rfl w3.heap.size 121 i0 _ 2 24 Tryz.underlying123 Hi.out Hz0.out Hz1.out Hz2.out rfl (by omega) (.slice (some ⟨g, 0, none⟩) ps'.length cap) ps'.length (cellsPc ps') rfl HRow7.out (some ⟨g9, 0, none⟩) pk.length cap9 (cellsPc pk.reverse) rfl (by rw [cellsPc_len, List.length_reverse]) HC7.out.rds.src (cellsPc_one _) (by unfold maxLen; omega) (by omega) HQ7.out.size ?_; intro v' w' own' gr' _))
          have hnew : TS l x w3 w' (.slice A' ob.length c') v' ob (ps' ++ pk.reverse) := by
            refine ⟨HO7.out.kept gr' (rows_apart HO7.out HRow7.out (by decide)), ?_, Below.grown HQ7.out gr' HQ7.out.size (fun k e => (HRow7.out.lt k e).1), ?_, fun p hp => ?_, ?_⟩
            · rw [List.length_append, List.length_reverse, cellsPc_app]; exact own'
            · have h1 := HI.out.says
              rw [← h1]
              simp only [List.reverse_append, List.reverse_reverse, List.reverse_cons, List.reverse_nil, List.nil_append, List.cons_append, pcsL_app, pcsL, pcL_at, HT1.out]
            · rcases List.mem_append.1 hp with h | h
              · exact HI.out.ok p (by simp [h])
              · exact HT3.out p (List.mem_reverse.1 h)
            · have h1 := HI.out.work
              have h2 := HT2.out
              have h3 := Hmj.out
              rw [pcsW_app] at h1 ⊢
              rw [pcsW_rev]
              simp only [pcsW] at h1
              omega
          have HNew := Lib.hid hnew
          clear hnew own' gr'
          go_roundw
          case rel => exact ⟨_, _, HNew⟩
          case measure =>
            have h2 := HT2.out
            have h3 := Hmj.out
            rw [pcsOf_row HNew.out.row, hmeas, pcsW_app, pcsW_app, pcsW_rev]
            simp only [pcsW]
            omega
        · clear hk
          go_region_held3 (fun w' => w'.cell? ⟨wr.heap.size, 1, none⟩ = some (.int .i64 (j : Int)) ∧ w'.cell? ⟨w1.heap.size, 0, none⟩ = some (.slice (some ad) l.length c) ∧ w'.cell? ⟨w1.heap.size, 1, none⟩ = some (.slice S l.length l.length) ∧ w'.cell? (ad.add (j * 3)) = some (.int .i64 kd) ∧ (Instr.lookup 118 (.map (some MB)) (.int .i64 kd) false).run Tryz.prog w' = .ok (.func (.func 96) #[] #[]) w')
            (first
              | (with_reducible exact HX.out _ p6)
              | (with_reducible exact HX.out _ ((Q.refl W5).drew))
              | go_keep)
            (first | (go_at_call 96; refine (CF.out _ (HQ5.out.drew)).mono ?_; rintro e w6 ⟨K, hE, hN, g9, cap9, rfl, own9, q9⟩; have p6 := (Q.refl W5).drew.trans q9; have HP6 := Lib.hid (HPA.out K hE hN); clear hE hN))
          obtain ⟨ht1, ht2, ht3, ht4⟩ := HP6.out
          clear HP6
          generalize pcs l l[j] j K = pk at *
          have HT1 := Lib.hid ht1
          have HT2 := Lib.hid ht2
          have HT3 := Lib.hid ht3
          have hg9 : W5.heap.size ≤ g9 := (own9.lt g9 rfl).1
          have HG9 := Lib.hid hg9
          have HRow6 := Lib.hid (row_kept HR5.out p6 (Nat.le_refl _))
          have HO6 := Lib.hid (row_kept HO5.out p6 (Nat.le_refl _))
          have HQ6 := Lib.hid (HQ5.out.trans p6)
          have HC9 := Lib.hid (OwnC.of_row own9)
          clear ht1 ht2 ht3 own9 q9 p6 HX CF HPA hg9 n1 r0 r1 k0
          go_wp2_with (first
            | (go_at_call 77; refine (reverse_pcs g9 _ cap9 pk w6 rfl HC9.out (by omega)).mono ?_; rintro e w7 ⟨⟨v7, rfl⟩, ho7, gr7⟩
               have HC7 := Lib.hid ho7
               have HRow7 := Lib.hid (row_under HRow6.out gr7 (fun k e => by have h1 := HW5.out; have h2 := HG9.out; have h3 : g = k := by injection e
                                                                             omega))
               have HO7 := Lib.hid (row_under HO6.out gr7 (fun k e => Nat.lt_of_lt_of_le (HO5b.out k e) HG9.out))
               have HQ7 := Lib.hid (grown_q gr7 HQ6.out (Nat.le_trans HQ5.out.size HG9.out))
               clear ho7 gr7)
            | (at_builtin; refine wpList_append_src _ rfl (.tmp 58) (.tmp 59) _ rfl w3.heap.size 121 i0 _ 2 24 Tryz.underlying123 Hi.out Hz0.out Hz1.out Hz2.out rfl (by omega) (.slice (some ⟨g, 0, none⟩) ps'.length cap) ps'.length (cellsPc ps') rfl HRow7.out (some ⟨g9, 0, none⟩) pk.length cap9 (cellsPc pk.reverse) rfl (by rw [cellsPc_len, List.length_reverse]) HC7.out.rds.src (cellsPc_one _) (by unfold maxLen; omega) (by omega) HQ7.out.size ?_; intro v' w' own' gr' _))
          have hnew : TS l x w3 w' (.slice A' ob.length c') v' ob (ps' ++ pk.reverse) := by
            refine ⟨HO7.out.kept gr' (rows_apart HO7.out HRow7.out (by decide)), ?_, Below.grown HQ7.out gr' HQ7.out.size (fun k e => (HRow7.out.lt k e).1), ?_, fun p hp => ?_, ?_⟩
            · rw [List.length_append, List.length_reverse, cellsPc_app]; exact own'
            · have h1 := HI.out.says
              rw [← h1]
              simp only [List.reverse_append, List.reverse_reverse, List.reverse_cons, List.reverse_nil, List.nil_append, List.cons_append, pcsL_app, pcsL, pcL_at, HT1.out]
            · rcases List.mem_append.1 hp with h | h
              · exact HI.out.ok p (by simp [h])
              · exact HT3.out p (List.mem_reverse.1 h)
            · have h1 := HI.out.work
              have h2 := HT2.out
              have h3 := Hmj.out
              rw [pcsW_app] at h1 ⊢
              rw [pcsW_rev]
              simp only [pcsW] at h1
              omega
          have HNew := Lib.hid hnew
          clear hnew own' gr'
          go_roundw
          case rel => exact ⟨_, _, HNew⟩
          case measure =>
            have h2 := HT2.out
            have h3 := Hmj.out
            rw [pcsOf_row HNew.out.row, hmeas, pcsW_app, pcsW_app, pcsW_rev]
            simp only [pcsW]
            omega
end Go.Proofs.YtdmdcggmgipdbaaGreatDoor.Ex

namespace Go.Proofs.YtdmdcggmgipdbaaGreatDoor.Ld
open Go.RowKit Kit Rw
open Go.Proofs.YtdmdcggmgipdbaaGreatDoor.Sg (Sig Row)
open Go.Proofs.YtdmdcggmgipdbaaGreatDoor.Hs (Keys Ints BoxT layI)
open Go.Proofs.YtdmdcggmgipdbaaGreatDoor.Tm (Tm Store Made castL of_any RowPost below_any belowI belowL isPl isPl_iff Box4)
open Go.Proofs.YtdmdcggmgipdbaaGreatDoor.Ex (Ex cellsS rightB rightP_any text_any own_new)
set_option maxRecDepth 100000 in
theorem lay_nil (A : Option Addr) (c : Nat) (w : World) : Calls Tryz.prog 70 #[.slice A 0 c] w fun e w' => ∃ S d, e = .returned (.tuple #[.agg #[.slice A 0 c, .slice S 0 d], .bool false]) ∧ Q w w' := by
  have hmk := Ex.make_ints 0 (by omega)
  rw [show ((0 : Nat) : Int) = 0 from rfl] at hmk
  have HB := Lib.hid (own_new w [Value.slice none 0 0, Value.slice none 0 0] 112)
  have HA := Lib.hid ((Q.refl w).alloc (Obj.cells #[Value.slice none 0 0, Value.slice none 0 0] 112))
  change Hid (OwnC (w.alloc (Obj.cells #[Value.slice none 0 0, Value.slice none 0 0] 112)) w.heap.size [Value.slice none 0 0, Value.slice none 0 0]) at HB
  go_enter Tryz.func70, Tryz.ntmps70
  go_upto_region 1 with fail
  generalize w.alloc (Obj.cells #[Value.slice none 0 0, Value.slice none 0 0] 112) = W0 at *
  go_wp2_with fail
  have HQ := Lib.hid ((Q.refl W0).alloc (Obj.cells (madeCells #[Value.int IntKind.i64 0] 0) 3))
  clear hmk
  generalize W0.alloc (Obj.cells (madeCells #[Value.int IntKind.i64 0] 0) 3) = W1 at *
  generalize W0.heap.size = g at *
  go_loopw [5, 18] (fun ok i wr => i = .int .i64 0 ∧ ok = .bool false ∧ wr = W1) (fun _ _ _ => 0)
  case atStart => exact ⟨rfl, rfl, rfl⟩
  case round =>
    obtain ⟨rfl, rfl, rfl⟩ := hrel
    have hB := HB.out.q HQ.out
    have b0 := (hB.2 0 _ rfl).1
    have b1 := (hB.2 1 _ rfl).1
    have f0 := (hB.2 0 _ rfl).2
    have f1 := (hB.2 1 _ rfl).2
    have hq := HA.out.trans HQ.out
    clear hB
    go_wp2_with fail
    go_region
    all_goals go_wp2_with fail
    have y0 := Rw.setCell_ne (i := 1) (j := 0) (v := .slice (some ⟨g, 0, none⟩) 0 0) (by omega) (Rw.setCell_eq (v := .slice A 0 c) b0)
    have y1 := Rw.setCell_eq (v := .slice (some ⟨g, 0, none⟩) 0 0) (Rw.setCell_ne (i := 0) (j := 1) (v := .slice A 0 c) (by omega) b1)
    exact bodyPost_ret (v := .tuple #[.agg #[.slice A 0 c, .slice (some ⟨g, 0, none⟩) 0 0], .bool false]) (by simp [results, Tryz.f70, go_sem, y0, y1]) rfl ⟨_, _, rfl, ((hq.setCell (p := ⟨w.heap.size, 0, none⟩) (Nat.le_refl _) _).setCell (p := ⟨w.heap.size, 1, none⟩) (Nat.le_refl _) _).drew⟩
theorem right_nil9 (A : Option Addr) (c : Nat) (w : World) : Calls Tryz.prog 37 #[.slice A 0 c] w fun e w' => e = .returned (.bool false) ∧ Q w w' := by
  go_enter Tryz.func37, Tryz.ntmps37
  go_wp2_with fail
  refine (lay_nil A c w).mono ?_
  rintro e w1 ⟨S, d, rfl, q1⟩
  go_wp2_with fail
  go_ret
  exact ⟨rfl, q1.alloc _⟩
end Go.Proofs.YtdmdcggmgipdbaaGreatDoor.Ld
