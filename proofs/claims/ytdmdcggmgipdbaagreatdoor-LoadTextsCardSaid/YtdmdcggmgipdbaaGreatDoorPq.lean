/-
  What the proofs lean on, part 17 of 25.
-/
import Derived.Test.YtdmdcggmgipdbaaGreatDoorPc
import Derived.Test.YtdmdcggmgipdbaaGreatDoorPe
import Derived.Test.YtdmdcggmgipdbaaGreatDoorPh
import Derived.Test.YtdmdcggmgipdbaaGreatDoorPk
import Derived.Test.YtdmdcggmgipdbaaGreatDoorPm
import Derived.Test.YtdmdcggmgipdbaaGreatDoorPn
import Derived.Test.YtdmdcggmgipdbaaGreatDoorPp
namespace Go.Proofs.YtdmdcggmgipdbaaGreatDoor.Ld
open Go.RowKit Kit Rw
open Go.Proofs.YtdmdcggmgipdbaaGreatDoor.Sg (Sig findI)
open Go.Proofs.YtdmdcggmgipdbaaGreatDoor.Hs (Dist)
open Go.Proofs.YtdmdcggmgipdbaaGreatDoor.Tm (Tm Store Made argsOf isPl isPl_iff)
open Go.Proofs.YtdmdcggmgipdbaaGreatDoor.Ex (Ex runS mayN rightB right_tree)
section
variable {L : List Sig} {ks : List (List Int)} {names : List ByteArray}
theorem Rep.lt {e : Ex} {id : Int} (h : Rep L ks names e id) : ∃ i : Nat, id = (i : Int) ∧ i < ks.length := by
  obtain ⟨n, kids⟩ := e
  simp only [Rep] at h
  obtain ⟨i, s, xs, rfl, h1, _⟩ := h
  exact ⟨i, rfl, (List.getElem?_eq_some_iff.1 h1).1⟩
/-- of what a place is made: itself, or of what one of its parts is made -/
theorem made_top {i z : Nat} (h : Made ks i z) : z = i ∨ ∃ a : Nat, (a : Int) ∈ argsOf ks i ∧ a < i ∧ Made ks a z := by
  induction h with
  | self => exact .inl rfl
  | @part y x hy hx hlt ih =>
    rcases ih with rfl | ⟨a, h1, h2, h3⟩
    · exact .inr ⟨x, hx, hlt, .self⟩
    · exact .inr ⟨a, h1, h2, Made.part h3 hx hlt⟩
mutual
theorem rep_vars (hS : Store L ks) : ∀ (e : Ex) (id : Int), Rep L ks names e id → VarsIn names ks id.toNat
  | .mk n kids, id, h => by
    simp only [Rep] at h
    obtain ⟨i, s, xs, rfl, h1, h2, h3⟩ := h
    have hp := parts_ahead hS h1
    have ha := argsOf_at h1 hp.1
    have hk : (Tm.ofKey (n.1 :: s :: partP n :: xs)) = ⟨n.1, s, partP n, xs⟩ := rfl
    rw [hk] at ha
    have ht : tmP ks i = ⟨n.1, s, partP n, xs⟩ := by unfold tmP; rw [h1]; rfl
    rw [Int.toNat_natCast]
    intro y hy hk2
    rcases made_top hy with rfl | ⟨a, g1, _, g3⟩
    · rw [ht] at hk2 ⊢
      obtain ⟨j, e1, e2⟩ := h2.1 hk2
      have := (List.getElem?_eq_some_iff.1 e2).1
      show s < _
      omega
    · rw [ha] at g1
      exact rep_varsL hS kids xs h3 a g1 y g3 hk2
theorem rep_varsL (hS : Store L ks) : ∀ (es : List Ex) (xs : List Int), RepL L ks names es xs → ∀ a : Nat, (a : Int) ∈ xs → VarsIn names ks a
  | [], xs, h, a, ha => by
    have e : xs = [] := by simpa only [RepL] using h
    rw [e] at ha; cases ha
  | e :: es, xs, h, a, ha => by
    obtain ⟨x, r, rfl, g1, g2⟩ := h.inv
    rcases List.mem_cons.1 ha with hx | hx
    · have := rep_vars hS e x g1
      rw [← hx, Int.toNat_natCast] at this
      exact this
    · exact rep_varsL hS es r g2 a hx
end
/-- an expression's place has its nodes -/
theorem nodes_rep (hS : Store L ks) {x : Ex} {id : Int} (hw : x.wf) (hm : ∀ t ∈ x.nodes, mayN t = true) (hl : x.nodes.length ≤ 300) (hr : rightB x.nodes = true) (h : Rep L ks names x id) :
    nodesE L names ks id = 0 ∧ exP L names ks id.toNat = x ∧ nodesV L names ks id = x.nodes ∧ textV L names ks id = x.text := by
  have he := exP_back hS x id hw hm h
  obtain ⟨i, rfl, hi⟩ := h.lt
  have hv := rep_vars hS x _ h
  have h0 : nodesE L names ks (i : Int) = 0 := by
    unfold nodesE
    rw [if_pos ((isPl_iff _ _).2 (by omega)), if_pos (varsB_iff.2 hv), he, if_neg (by show ¬ 300 < x.nodes.length; omega), if_pos hr]
  refine ⟨h0, he, ?_, ?_⟩
  · unfold nodesV; rw [if_pos h0, he]
  · unfold textV; rw [if_pos h0, he]
end
/-- all that a load without an error gives -/
structure Loaded (L : List Sig) (ks : List (List Int)) (names : List ByteArray) (limit : Int) (l : List Tg) (x : Ex) : Prop where
  ok : Ok L ⟨ks, names, []⟩ ⟨loadK L limit ks names l, loadN L limit ks names l, [loadI L limit ks names l]⟩ [x] l.length
  rep : Rep L (loadK L limit ks names l) (loadN L limit ks names l) x (loadI L limit ks names l)
  again : loadF L 0 l ⟨loadK L limit ks names l, loadN L limit ks names l, []⟩ = (0, ⟨loadK L limit ks names l, loadN L limit ks names l, [loadI L limit ks names l]⟩)
theorem loaded {L : List Sig} {ks : List (List Int)} {names : List ByteArray} {limit : Int} {l : List Tg} {x : Ex} (hS : Store L ks) (hd : Dst names) (hv : NamesV names) (hm : ∀ n ∈ l, mayN n = true) (hr : runS [] l = some [x])
    (h : loadE L limit ks names l = 0) : Loaded L ks names limit l x := by
  have h1 := load_run l ⟨ks, names, []⟩ [] [x] hS hd hv RepL.nil hm hr h
  have h2 := load_again (L := L) (limit := limit) h1.store.dist h1.dst l ⟨ks, names, []⟩ [] [x] hS hd hv RepL.nil hm hr h (Pre.refl _) (Pre.refl _)
  have eK : loadK L limit ks names l = (loadF L limit l ⟨ks, names, []⟩).2.ks := by unfold loadK; rw [if_pos h]
  have eN : loadN L limit ks names l = (loadF L limit l ⟨ks, names, []⟩).2.own := by unfold loadN; rw [if_pos h]
  have eI : loadI L limit ks names l = (loadF L limit l ⟨ks, names, []⟩).2.st.headD 0 := by unfold loadI; rw [if_pos h]
  obtain ⟨y, r, hy, hy1, hy2⟩ := h1.rep.inv
  have hr0 : r = [] := by simpa only [RepL] using hy2
  subst hr0
  have eS : [loadI L limit ks names l] = (loadF L limit l ⟨ks, names, []⟩).2.st := by rw [eI, hy]; rfl
  have eS1 : loadI L limit ks names l = y := by rw [eI, hy]; rfl
  refine ⟨?_, ?_, ?_⟩
  · rw [eK, eN, eS]; exact h1
  · rw [eK, eN, eS1]; exact hy1
  · rw [eK, eN, eS]; exact h2
/-- with an error all is as it was -/
theorem load_bad {L : List Sig} {ks : List (List Int)} {names : List ByteArray} {limit : Int} {l : List Tg} (h : loadE L limit ks names l ≠ 0) : loadK L limit ks names l = ks ∧ loadN L limit ks names l = names ∧ loadI L limit ks names l = 0 := by
  unfold loadK loadN loadI
  rw [if_neg h, if_neg h, if_neg h]
  exact ⟨rfl, rfl, rfl⟩
theorem Loaded.e2 {L : List Sig} {ks : List (List Int)} {names : List ByteArray} {limit : Int} {l : List Tg} {x : Ex} (h : Loaded L ks names limit l x) :
    loadE L 0 (loadK L limit ks names l) (loadN L limit ks names l) l = 0 ∧ loadK L 0 (loadK L limit ks names l) (loadN L limit ks names l) l = loadK L limit ks names l ∧
      loadN L 0 (loadK L limit ks names l) (loadN L limit ks names l) l = loadN L limit ks names l ∧ loadI L 0 (loadK L limit ks names l) (loadN L limit ks names l) l = loadI L limit ks names l := by
  have h0 : loadE L 0 (loadK L limit ks names l) (loadN L limit ks names l) l = 0 := by unfold loadE; rw [h.again]
  refine ⟨h0, ?_, ?_, ?_⟩
  · rw [loadK, if_pos h0, h.again]
  · rw [loadN, if_pos h0, h.again]
  · rw [loadI, if_pos h0, h.again]; rfl
/-- two places' expressions, texts, nodes -/
theorem places_texts {L : List Sig} {ks : List (List Int)} {names : List ByteArray} {i j : Int} {a b : Nat} (hS : Store L ks) (hD : DstL L) (hN : Dst names) (ha : At0 L names ks i a) (hb : At0 L names ks j b) :
    ((exP L names ks a).text = (exP L names ks b).text ↔ i = j) ∧ ((exP L names ks a).nodes = (exP L names ks b).nodes ↔ i = j) := by
  have key : ∀ h : exP L names ks a = exP L names ks b, i = j := fun h => by
    have := exP_inj hS hD hN ha.lt hb.lt ha.vars hb.vars h
    rw [ha.id, hb.id, this]
  have back : i = j → exP L names ks a = exP L names ks b := fun h => by
    have : a = b := by have := ha.id; have := hb.id; omega
    rw [this]
  refine ⟨⟨fun h => key (text_inj ⟨ha.wf, ha.may⟩ ⟨hb.wf, hb.may⟩ h), fun h => by rw [back h]⟩, ⟨fun h => ?_, fun h => by rw [back h]⟩⟩
  have h1 := Ex.run_tree _ [] ha.wf
  have h2 := Ex.run_tree _ [] hb.wf
  rw [h, h2] at h1
  injection h1 with h1
  injection h1 with h1
  exact key h1.symm
end Go.Proofs.YtdmdcggmgipdbaaGreatDoor.Ld

namespace Go.Proofs.YtdmdcggmgipdbaaGreatDoor.Ld
open Go.RowKit Kit Rw
open Go.Proofs.YtdmdcggmgipdbaaGreatDoor.Hs (Keys Ints BoxT fewB few_sum mem_len refFew_any)
open Go.Proofs.YtdmdcggmgipdbaaGreatDoor.Tm (storeB refRight3_any)
open Go.Proofs.YtdmdcggmgipdbaaGreatDoor.Ex (cellsS)
def of9B (l : List Sg.Sig) (ks : List (List Int)) (sl : List Int) (names : List ByteArray) : Bool := decide (l.length ≤ 64) && decide (names.length ≤ 100) && Sg.rightB l && fewB ks sl.length && storeB l ks sl && namedB names
set_option maxRecDepth 100000 in
set_option maxHeartbeats 2000000 in
theorem of9_any (L A S B : Option Addr) (nl cl n c m d nb cb : Nat) (l : List Sg.Sig) (ks : List (List Int)) (sl : List Int) (names : List ByteArray) (w : World) (hnl : nl = l.length) (hr : Sg.Row w w.heap.size L l) (hn : n = ks.length) (hm : m = sl.length) (hk : Keys w w.heap.size A ks) (hS : Ints w w.heap.size S sl)
    (hnb : nb = names.length) (hN : Rds w w.heap.size B (cellsS names)) (hll : l.length ≤ maxLen) (hsz : Sg.Sized l) (hl : ks.length ≤ 1152921504606846976) (hs : ∀ k ∈ ks, k.length ≤ 1152921504606846976) (hsl : sl.length ≤ 1152921504606846976) :
    Calls Tryz.prog 12 #[.slice L nl cl, .agg #[.slice A n c, .slice S m d], .slice B nb cb] w fun e w' => e = .returned (.bool (of9B l ks sl names)) ∧ Q w w' := by
  subst hnl hn hm hnb
  have q0 := (Q.refl w).alloc (Obj.cells #[Value.slice A ks.length c, Value.slice S sl.length d] 26)
  have Hr := Lib.hid ((hr.q (Nat.le_refl _) q0).more q0.size)
  have Hk := Lib.hid ((hk.q (Nat.le_refl _) q0).more q0.size)
  have HS := Lib.hid ((hS.q (Nat.le_refl _) q0).more q0.size)
  have HN := Lib.hid (hN.q q0)
  have HB := Lib.hid (BoxT.new w (Value.slice A ks.length c) (Value.slice S sl.length d) 26)
  have HsM := Lib.hid hs
  have HD : Hid (of9B l ks sl names = (decide (l.length ≤ 64) && decide (names.length ≤ 100) && Sg.rightB l && fewB ks sl.length && storeB l ks sl && namedB names)) := rfl
  clear hr hk hS hs hN
  by_cases h64 : l.length ≤ 64
  · have d64 : decide ((l.length : Int) ≤ 64) = true := decide_eq_true (by omega)
    by_cases h100 : names.length ≤ 100
    · have d100 : decide ((names.length : Int) ≤ 100) = true := decide_eq_true (by omega)
      have d100' : decide (names.length ≤ 100) = true := decide_eq_true h100
      have d64' : decide (l.length ≤ 64) = true := decide_eq_true h64
      cases hR : Sg.rightB l
      · have HR : Hid (of9B l ks sl names = false) := by unfold Hid; rw [HD.out, hR]; simp
        go_enter Tryz.func12, Tryz.ntmps12
        go_wp2_with fail
        generalize w.alloc (Obj.cells #[Value.slice A ks.length c, Value.slice S sl.length d] 26) = W0 at *
        refine (Sg.refRight_any _ _ _ l _ rfl Hr.out hll hsz).mono ?_
        rintro e w1 ⟨rfl, rfl⟩
        have b0 := HB.out.c0
        have b1 := HB.out.c1
        go_wp2_with fail
        go_ret
        exact ⟨by rw [HR.out]; rfl, q0⟩
      · cases hf : fewB ks sl.length
        · have HR : Hid (of9B l ks sl names = false) := by unfold Hid; rw [HD.out, hf]; simp
          go_enter Tryz.func12, Tryz.ntmps12
          go_wp2_with fail
          generalize w.alloc (Obj.cells #[Value.slice A ks.length c, Value.slice S sl.length d] 26) = W0 at *
          refine (Sg.refRight_any _ _ _ l _ rfl Hr.out hll hsz).mono ?_
          rintro e w1 ⟨rfl, rfl⟩
          have b0 := HB.out.c0
          have b1 := HB.out.c1
          go_wp2_with fail
          refine (refFew_any _ _ _ _ _ _ ks _ rfl Hk.out hl HsM.out hsl).mono ?_
          rintro e w2 ⟨rfl, q2⟩
          clear b0 b1
          have b0 := (HB.out.q q2).c0
          have b1 := (HB.out.q q2).c1
          go_wp2_with fail
          go_ret
          exact ⟨by rw [HR.out]; rfl, q0.trans q2⟩
        · have hsum := few_sum hf
          cases hst : storeB l ks sl
          · have HR : Hid (of9B l ks sl names = false) := by unfold Hid; rw [HD.out, hst]; simp
            go_enter Tryz.func12, Tryz.ntmps12
            go_wp2_with fail
            generalize w.alloc (Obj.cells #[Value.slice A ks.length c, Value.slice S sl.length d] 26) = W0 at *
            refine (Sg.refRight_any _ _ _ l _ rfl Hr.out hll hsz).mono ?_
            rintro e w1 ⟨rfl, rfl⟩
            have b0 := HB.out.c0
            have b1 := HB.out.c1
            go_wp2_with fail
            refine (refFew_any _ _ _ _ _ _ ks _ rfl Hk.out hl HsM.out hsl).mono ?_
            rintro e w2 ⟨rfl, q2⟩
            clear b0 b1
            have b0 := (HB.out.q q2).c0
            have b1 := (HB.out.q q2).c1
            go_wp2_with fail
            refine (refRight3_any _ _ _ _ _ _ _ _ _ l ks sl _ rfl ((Hr.out.q (Nat.le_refl _) q2).more q2.size) rfl rfl ((Hk.out.q (Nat.le_refl _) q2).more q2.size) ((HS.out.q (Nat.le_refl _) q2).more q2.size) (fun k hk => by have := mem_len hk; unfold maxLen; omega) (by omega) (by unfold maxLen; omega)).mono ?_
            rintro e w3 ⟨rfl, q3⟩
            go_wp2_with fail
            go_ret
            exact ⟨by rw [HR.out]; rfl, (q0.trans q2).trans q3⟩
          · have HR : Hid (of9B l ks sl names = namedB names) := by unfold Hid; rw [HD.out, d64', d100', hR, hf, hst]; simp
            go_enter Tryz.func12, Tryz.ntmps12
            go_wp2_with fail
            generalize w.alloc (Obj.cells #[Value.slice A ks.length c, Value.slice S sl.length d] 26) = W0 at *
            refine (Sg.refRight_any _ _ _ l _ rfl Hr.out hll hsz).mono ?_
            rintro e w1 ⟨rfl, rfl⟩
            have b0 := HB.out.c0
            have b1 := HB.out.c1
            go_wp2_with fail
            refine (refFew_any _ _ _ _ _ _ ks _ rfl Hk.out hl HsM.out hsl).mono ?_
            rintro e w2 ⟨rfl, q2⟩
            clear b0 b1
            have b0 := (HB.out.q q2).c0
            have b1 := (HB.out.q q2).c1
            go_wp2_with fail
            refine (refRight3_any _ _ _ _ _ _ _ _ _ l ks sl _ rfl ((Hr.out.q (Nat.le_refl _) q2).more q2.size) rfl rfl ((Hk.out.q (Nat.le_refl _) q2).more q2.size) ((HS.out.q (Nat.le_refl _) q2).more q2.size) (fun k hk => by have := mem_len hk; unfold maxLen; omega) (by omega) (by unfold maxLen; omega)).mono ?_
            rintro e w3 ⟨rfl, q3⟩
            go_wp2_with fail
            refine (refNamed_any _ _ _ names _ rfl (HN.out.q (q2.trans q3)) (by omega)).mono ?_
            rintro e w4 ⟨rfl, q4⟩
            go_wp2_with fail
            go_ret
            exact ⟨by rw [HR.out]; rfl, ((q0.trans q2).trans q3).trans q4⟩
    · have d100 : decide ((names.length : Int) ≤ 100) = false := decide_eq_false (by omega)
      have d100' : decide (names.length ≤ 100) = false := decide_eq_false h100
      have HR : Hid (of9B l ks sl names = false) := by unfold Hid; rw [HD.out, d100']; simp
      go_enter Tryz.func12, Tryz.ntmps12
      go_wp2_with fail
      go_ret
      exact ⟨by rw [HR.out]; rfl, q0⟩
  · have d64 : decide ((l.length : Int) ≤ 64) = false := decide_eq_false (by omega)
    have HR : Hid (of9B l ks sl names = false) := by unfold Hid; rw [HD.out, decide_eq_false h64]; simp
    go_enter Tryz.func12, Tryz.ntmps12
    go_wp2_with fail
    go_ret
    exact ⟨by rw [HR.out]; rfl, q0⟩
theorem of9_out {l : List Sg.Sig} {ks : List (List Int)} {sl : List Int} {names : List ByteArray} (h : of9B l ks sl names = true) : l.length ≤ 64 ∧ names.length ≤ 100 ∧ Sg.rightB l = true ∧ fewB ks sl.length = true ∧ storeB l ks sl = true ∧ namedB names = true := by
  unfold of9B at h
  simp only [Bool.and_eq_true, decide_eq_true_eq] at h
  exact ⟨h.1.1.1.1.1, h.1.1.1.1.2, h.1.1.1.2, h.1.1.2, h.1.2, h.2⟩
/-- what a right row has -/
theorem right1_at {L : List Sg.Sig} (h : Sg.rightB L = true) : ∀ (j : Nat) (hj : j < L.length), Sg.conB L[j].1 = true ∧ Sg.partsB L[j].2 = true ∧ Sg.findI L[j].1 L 0 = (j : Int) := by
  unfold Sg.rightB at h
  rw [Bool.and_eq_true] at h
  have all : ∀ (m k : Nat), k + m = L.length → Sg.rightG L (L.drop k) k = true → ∀ (j : Nat) (hj : j < L.length), k ≤ j → Sg.conB L[j].1 = true ∧ Sg.partsB L[j].2 = true ∧ Sg.findI L[j].1 L 0 = (j : Int) := by
    intro m
    induction m with
    | zero => intro k hk _ j hj hkj; omega
    | succ m ih =>
      intro k hk hg j hj hkj
      have hkl : k < L.length := by omega
      rw [Sg.rightG_at L L k hkl, Bool.and_eq_true, Bool.and_eq_true, Bool.and_eq_true, beq_iff_eq] at hg
      obtain ⟨⟨⟨h1, h2⟩, h3⟩, h4⟩ := hg
      rcases Nat.lt_or_eq_of_le hkj with h5 | h5
      · exact ih (k + 1) (by omega) h4 j hj h5
      · subst h5; exact ⟨h1, h2, h3⟩
  exact fun j hj => all L.length 0 (by omega) (by simpa using h.2) j hj (Nat.zero_le _)
end Go.Proofs.YtdmdcggmgipdbaaGreatDoor.Ld

namespace Go.Proofs.YtdmdcggmgipdbaaGreatDoor.Ld
open Go.RowKit Kit Hs Tm

theorem first_at (w1 : World) : Keys (((w1.alloc (Obj.cells #[.int .i64 0, .int .i64 0, .int .i64 0] 3)).alloc (Obj.cells #[.int .i64 1, .int .i64 0, .int .i64 0] 3)).alloc (Obj.cells #[.slice (some ⟨w1.heap.size, 0, none⟩) 3 3, .slice (some ⟨w1.heap.size + 1, 0, none⟩) 3 3] 24)) (w1.heap.size + 1 + 1 + 1) (some ⟨w1.heap.size + 1 + 1, 0, none⟩) first3 ∧
    ∀ W : World, (∀ p : Addr, w1.heap.size ≤ p.block → p.block < w1.heap.size + 1 + 1 + 1 → W.cell? p = (((w1.alloc (Obj.cells #[.int .i64 0, .int .i64 0, .int .i64 0] 3)).alloc (Obj.cells #[.int .i64 1, .int .i64 0, .int .i64 0] 3)).alloc (Obj.cells #[.slice (some ⟨w1.heap.size, 0, none⟩) 3 3, .slice (some ⟨w1.heap.size + 1, 0, none⟩) 3 3] 24)).cell? p) → Keys W (w1.heap.size + 1 + 1 + 1) (some ⟨w1.heap.size + 1 + 1, 0, none⟩) first3 := by
  have e2 : (w1.alloc (Obj.cells #[.int .i64 0, .int .i64 0, .int .i64 0] 3)).heap.size = w1.heap.size + 1 := by simp
  have e3 : ((w1.alloc (Obj.cells #[.int .i64 0, .int .i64 0, .int .i64 0] 3)).alloc (Obj.cells #[.int .i64 1, .int .i64 0, .int .i64 0] 3)).heap.size = w1.heap.size + 1 + 1 := by simp
  have h0 : ∀ j x, ([.int .i64 0, .int .i64 0, .int .i64 0] : List Value)[j]? = some x → (w1.alloc (Obj.cells #[.int .i64 0, .int .i64 0, .int .i64 0] 3)).cell? ⟨w1.heap.size, j, none⟩ = some x := fun j x hx => by
    rw [cell_of_row _ _ _ _ _ _ (heap_alloc_new w1 _)]; simpa using hx
  have h1 : ∀ j x, ([.int .i64 1, .int .i64 0, .int .i64 0] : List Value)[j]? = some x → ((w1.alloc (Obj.cells #[.int .i64 0, .int .i64 0, .int .i64 0] 3)).alloc (Obj.cells #[.int .i64 1, .int .i64 0, .int .i64 0] 3)).cell? ⟨w1.heap.size + 1, j, none⟩ = some x := fun j x hx => by
    have := cell_of_row ((w1.alloc (Obj.cells #[.int .i64 0, .int .i64 0, .int .i64 0] 3)).alloc (Obj.cells #[.int .i64 1, .int .i64 0, .int .i64 0] 3)) (w1.alloc (Obj.cells #[.int .i64 0, .int .i64 0, .int .i64 0] 3)).heap.size j _ _ _ (heap_alloc_new _ _)
    rw [e2] at this
    rw [this]; simpa using hx
  have h2 : ∀ j x, ([.slice (some ⟨w1.heap.size, 0, none⟩) 3 3, .slice (some ⟨w1.heap.size + 1, 0, none⟩) 3 3] : List Value)[j]? = some x → (((w1.alloc (Obj.cells #[.int .i64 0, .int .i64 0, .int .i64 0] 3)).alloc (Obj.cells #[.int .i64 1, .int .i64 0, .int .i64 0] 3)).alloc (Obj.cells #[.slice (some ⟨w1.heap.size, 0, none⟩) 3 3, .slice (some ⟨w1.heap.size + 1, 0, none⟩) 3 3] 24)).cell? ⟨w1.heap.size + 1 + 1, j, none⟩ = some x := fun j x hx => by
    have := cell_of_row (((w1.alloc (Obj.cells #[.int .i64 0, .int .i64 0, .int .i64 0] 3)).alloc (Obj.cells #[.int .i64 1, .int .i64 0, .int .i64 0] 3)).alloc (Obj.cells #[.slice (some ⟨w1.heap.size, 0, none⟩) 3 3, .slice (some ⟨w1.heap.size + 1, 0, none⟩) 3 3] 24)) ((w1.alloc (Obj.cells #[.int .i64 0, .int .i64 0, .int .i64 0] 3)).alloc (Obj.cells #[.int .i64 1, .int .i64 0, .int .i64 0] 3)).heap.size j _ _ _ (heap_alloc_new _ _)
    rw [e3] at this
    rw [this]; simpa using hx
  have q23 : Q (w1.alloc (Obj.cells #[.int .i64 0, .int .i64 0, .int .i64 0] 3)) (((w1.alloc (Obj.cells #[.int .i64 0, .int .i64 0, .int .i64 0] 3)).alloc (Obj.cells #[.int .i64 1, .int .i64 0, .int .i64 0] 3)).alloc (Obj.cells #[.slice (some ⟨w1.heap.size, 0, none⟩) 3 3, .slice (some ⟨w1.heap.size + 1, 0, none⟩) 3 3] 24)) := ((Q.refl _).alloc _).alloc _
  have q34 : Q ((w1.alloc (Obj.cells #[.int .i64 0, .int .i64 0, .int .i64 0] 3)).alloc (Obj.cells #[.int .i64 1, .int .i64 0, .int .i64 0] 3)) (((w1.alloc (Obj.cells #[.int .i64 0, .int .i64 0, .int .i64 0] 3)).alloc (Obj.cells #[.int .i64 1, .int .i64 0, .int .i64 0] 3)).alloc (Obj.cells #[.slice (some ⟨w1.heap.size, 0, none⟩) 3 3, .slice (some ⟨w1.heap.size + 1, 0, none⟩) 3 3] 24)) := (Q.refl _).alloc _
  have all : ∀ W : World, (∀ p : Addr, w1.heap.size ≤ p.block → p.block < w1.heap.size + 1 + 1 + 1 → W.cell? p = (((w1.alloc (Obj.cells #[.int .i64 0, .int .i64 0, .int .i64 0] 3)).alloc (Obj.cells #[.int .i64 1, .int .i64 0, .int .i64 0] 3)).alloc (Obj.cells #[.slice (some ⟨w1.heap.size, 0, none⟩) 3 3, .slice (some ⟨w1.heap.size + 1, 0, none⟩) 3 3] 24)).cell? p) → Keys W (w1.heap.size + 1 + 1 + 1) (some ⟨w1.heap.size + 1 + 1, 0, none⟩) first3 := fun W hW _ => by
    refine ⟨_, rfl, by show w1.heap.size + 1 + 1 < w1.heap.size + 1 + 1 + 1; omega, fun i key hi => ?_⟩
    match i, hi with
    | 0, hi =>
      obtain rfl : [0, 0, 0] = key := by simpa [first3] using hi
      refine ⟨some ⟨w1.heap.size, 0, none⟩, 3, Nat.le_refl _, ?_, fun _ => ⟨_, rfl, by show w1.heap.size < w1.heap.size + 1 + 1 + 1; omega, fun j x hx => ?_⟩⟩
      · rw [add_zero_head, hW _ (by show _ ≤ w1.heap.size + 1 + 1; omega) (by show w1.heap.size + 1 + 1 < _; omega)]
        exact h2 0 _ rfl
      · rw [add_zero_head, hW _ (Nat.le_refl _) (by show w1.heap.size < _; omega)]
        refine (q23.cell (p := ⟨w1.heap.size, j, none⟩) (by rw [e2]; exact Nat.lt_succ_self _)).trans (h0 j _ ?_)
        match j, hx with
        | 0, hx => injection hx with hx; subst hx; rfl
        | 1, hx => injection hx with hx; subst hx; rfl
        | 2, hx => injection hx with hx; subst hx; rfl
    | 1, hi =>
      obtain rfl : [1, 0, 0] = key := by simpa [first3] using hi
      refine ⟨some ⟨w1.heap.size + 1, 0, none⟩, 3, Nat.le_refl _, ?_, fun _ => ⟨_, rfl, by show w1.heap.size + 1 < w1.heap.size + 1 + 1 + 1; omega, fun j x hx => ?_⟩⟩
      · rw [add_zero_head, hW _ (by show _ ≤ w1.heap.size + 1 + 1; omega) (by show w1.heap.size + 1 + 1 < _; omega)]
        exact h2 1 _ rfl
      · rw [add_zero_head, hW _ (by show _ ≤ w1.heap.size + 1; omega) (by show w1.heap.size + 1 < _; omega)]
        refine (q34.cell (p := ⟨w1.heap.size + 1, j, none⟩) (by rw [e3]; exact Nat.lt_succ_self _)).trans (h1 j _ ?_)
        match j, hx with
        | 0, hx => injection hx with hx; subst hx; rfl
        | 1, hx => injection hx with hx; subst hx; rfl
        | 2, hx => injection hx with hx; subst hx; rfl
  exact ⟨all _ fun _ _ _ => rfl, all⟩
set_option maxRecDepth 100000 in
set_option maxHeartbeats 2000000 in
theorem refNew_any (w : World) : Calls Tryz.prog 27 #[] w (NewPost w) := by
  have q0 := (Q.refl w).alloc (Obj.cells #[Value.slice none 0 0, Value.slice none 0 0] 26)
  have HR := Lib.hid (BoxF.new w 26)
  have hF := first_at (w.alloc (Obj.cells #[Value.slice none 0 0, Value.slice none 0 0] 26))
  rw [show (w.alloc (Obj.cells #[Value.slice none 0 0, Value.slice none 0 0] 26)).heap.size = w.heap.size + 1 by simp] at hF
  have HF := Lib.hid hF
  have q1 := ((((Q.refl w).alloc (Obj.cells #[Value.slice none 0 0, Value.slice none 0 0] 26)).alloc (Obj.cells #[.int .i64 0, .int .i64 0, .int .i64 0] 3)).alloc (Obj.cells #[.int .i64 1, .int .i64 0, .int .i64 0] 3)).alloc (Obj.cells #[.slice (some ⟨w.heap.size + 1, 0, none⟩) 3 3, .slice (some ⟨w.heap.size + 1 + 1, 0, none⟩) 3 3] 24)
  have q01 := (((Q.refl (w.alloc (Obj.cells #[Value.slice none 0 0, Value.slice none 0 0] 26))).alloc (Obj.cells #[.int .i64 0, .int .i64 0, .int .i64 0] 3)).alloc (Obj.cells #[.int .i64 1, .int .i64 0, .int .i64 0] 3)).alloc (Obj.cells #[.slice (some ⟨w.heap.size + 1, 0, none⟩) 3 3, .slice (some ⟨w.heap.size + 1 + 1, 0, none⟩) 3 3] 24)
  have hz : ((((w.alloc (Obj.cells #[Value.slice none 0 0, Value.slice none 0 0] 26)).alloc (Obj.cells #[.int .i64 0, .int .i64 0, .int .i64 0] 3)).alloc (Obj.cells #[.int .i64 1, .int .i64 0, .int .i64 0] 3)).alloc (Obj.cells #[.slice (some ⟨w.heap.size + 1, 0, none⟩) 3 3, .slice (some ⟨w.heap.size + 1 + 1, 0, none⟩) 3 3] 24)).heap.size = w.heap.size + 1 + 1 + 1 + 1 := by simp
  clear hF
  go_enter Tryz.func27, Tryz.ntmps27
  go_wp2_with fail
  generalize (((w.alloc (Obj.cells #[Value.slice none 0 0, Value.slice none 0 0] 26)).alloc (Obj.cells #[.int .i64 0, .int .i64 0, .int .i64 0] 3)).alloc (Obj.cells #[.int .i64 1, .int .i64 0, .int .i64 0] 3)).alloc (Obj.cells #[.slice (some ⟨w.heap.size + 1, 0, none⟩) 3 3, .slice (some ⟨w.heap.size + 1 + 1, 0, none⟩) 3 3] 24) = W1 at *
  refine (refLay_any _ _ _ first3 _ rfl (by rw [hz]; exact HF.out.1) (by simp [first3]) (by simp [first3, Go.maxLen])).mono ?_
  rintro e w2 ⟨g, rfl, hg, hO, q2⟩
  have HO := Lib.hid hO
  have hlen : first3.length = 2 := rfl
  rw [hlen, size2]
  have HR2 := Lib.hid ((HR.out.q q01).q q2)
  have r0 := HR2.out.c0
  have r1 := HR2.out.c1
  have f0 := HR2.out.f0
  have f1 := HR2.out.f1
  have hl0 := HR.out.lt
  have hz2 := q2.size
  clear hO hlen
  go_wp2_with fail
  obtain ⟨y0, y1⟩ := HR2.out.two (.slice (some ⟨w.heap.size + 1 + 1 + 1, 0, none⟩) 2 2) (.slice (some ⟨g, 0, none⟩) 8 8)
  have hzz : ((w2.setCell ⟨w.heap.size, 0, none⟩ (.slice (some ⟨w.heap.size + 1 + 1 + 1, 0, none⟩) 2 2)).setCell ⟨w.heap.size, 1, none⟩ (.slice (some ⟨g, 0, none⟩) 8 8)).heap.size = w2.heap.size := by simp [World.setCell]
  refine bodyPost_ret (v := .agg #[.slice (some ⟨w.heap.size + 1 + 1 + 1, 0, none⟩) 2 2, .slice (some ⟨g, 0, none⟩) 8 8]) (by simp [results, Tryz.f27, go_sem, y0, y1]) rfl ⟨_, 2, some ⟨g, 0, none⟩, 8, rfl, ?_, fun _ => ⟨_, rfl, by rw [hzz]; exact HO.out.1, fun i x hx => ?_⟩, ((q1.trans q2).setCell (p := ⟨w.heap.size, 0, none⟩) (Nat.le_refl _) _).setCell (p := ⟨w.heap.size, 1, none⟩) (Nat.le_refl _) _⟩
  · exact (HF.out.2 _ fun p h1 h2 => (set_two_other _ _ _ _ _ (by omega)).trans (q2.cell (by rw [hz]; exact h2))).more (by rw [hzz]; omega)
  · rw [add_zero_head, set_two_other _ _ _ _ _ (by show g ≠ _; omega)]
    exact (HO.out.2 i x hx).1
end Go.Proofs.YtdmdcggmgipdbaaGreatDoor.Ld

namespace Go.Proofs.YtdmdcggmgipdbaaGreatDoor.Ld
open Go.RowKit Kit Rw
open Go.Proofs.YtdmdcggmgipdbaaGreatDoor.Sg (Sig Row conB partsB findI)
open Go.Proofs.YtdmdcggmgipdbaaGreatDoor.Hs (Keys Ints layI fewB few_sum mem_len tabB eqL eqL_iff rowsB rowsB_iff)
open Go.Proofs.YtdmdcggmgipdbaaGreatDoor.Tm (Store storeB store_iff)
open Go.Proofs.YtdmdcggmgipdbaaGreatDoor.Ex (Ex cellsS mayN runS rightB right_tree)
/-- a right row, a store, names that may be, all of bounded size (b: how many nodes were loaded) -/
structure StoOk (L : List Sig) (ks : List (List Int)) (names : List ByteArray) (b : Nat) : Prop where
  l64 : L.length ≤ 64
  sig : Sg.rightB L = true
  store : Store L ks
  dst : Dst names
  nms : NamesV names
  klen : ks.length ≤ 2000 + b
  flat : ks.flatten.length ≤ 2000 + 11 * b
  nlen : names.length ≤ 100 + b
theorem StoOk.dstL {L : List Sig} {ks : List (List Int)} {names : List ByteArray} {b : Nat} (h : StoOk L ks names b) : DstL L := fun j hj => (right1_at h.sig j hj).2.2
theorem StoOk.l20 {L : List Sig} {ks : List (List Int)} {names : List ByteArray} {b : Nat} (h : StoOk L ks names b) : ∀ s ∈ L, s.1.size ≤ 20 := fun s hs => by
  obtain ⟨j, hj, rfl⟩ := List.getElem_of_mem hs
  have := (right1_at h.sig j hj).1
  rcases Nat.lt_or_ge 20 L[j].1.size with h1 | h1
  · unfold conB at this
    rw [Sg.nameB_long _ _ _ h1] at this
    cases this
  · exact h1
theorem StoOk.l8 {L : List Sig} {ks : List (List Int)} {names : List ByteArray} {b : Nat} (h : StoOk L ks names b) : ∀ s ∈ L, s.2.size ≤ 8 := fun s hs => by
  obtain ⟨j, hj, rfl⟩ := List.getElem_of_mem hs
  have := (right1_at h.sig j hj).2.1
  unfold partsB Sg.argsB at this
  rw [Bool.and_eq_true, decide_eq_true_eq] at this
  simpa using this.1
theorem StoOk.n20 {L : List Sig} {ks : List (List Int)} {names : List ByteArray} {b : Nat} (h : StoOk L ks names b) : ∀ a ∈ names, a.size ≤ 20 := fun a ha => by
  have := h.nms a ha
  rcases Nat.lt_or_ge 20 a.size with h1 | h1
  · rw [Nm.nameB_long _ _ _ h1] at this
    cases this
  · exact h1
theorem StoOk.kx {L : List Sig} {ks : List (List Int)} {names : List ByteArray} {b : Nat} (h : StoOk L ks names b) (hb : b ≤ 2000) : ∀ k ∈ ks, k.length ≤ 100000 := fun k hk => by
  have := mem_len hk
  have := h.flat
  omega
theorem StoOk.named {L : List Sig} {ks : List (List Int)} {names : List ByteArray} {b : Nat} (h : StoOk L ks names b) : namedB names = true := (named_iff names).2 ⟨h.nms, h.dst⟩
theorem StoOk.storeB {L : List Sig} {ks : List (List Int)} {names : List ByteArray} {b : Nat} (h : StoOk L ks names b) : Tm.storeB L ks (layI ks) = true := (store_iff L ks _).2 ⟨h.store, rfl⟩
theorem of9_sto {l : List Sig} {ks : List (List Int)} {sl : List Int} {names : List ByteArray} (h : of9B l ks sl names = true) : StoOk l ks names 0 ∧ sl = layI ks := by
  obtain ⟨h1, h2, h3, h4, h5, h6⟩ := of9_out h
  obtain ⟨g1, g2⟩ := (store_iff _ _ _).1 h5
  obtain ⟨n1, n2⟩ := (named_iff names).1 h6
  have := few_sum h4
  exact ⟨⟨h1, h3, g1, n2, n1, by omega, by omega, by omega⟩, g2⟩
theorem Loaded.sto {L : List Sig} {ks : List (List Int)} {names : List ByteArray} {limit : Int} {l : List Tg} {x : Ex} {b : Nat} (h : StoOk L ks names b) (hl : Loaded L ks names limit l x) :
    StoOk L (loadK L limit ks names l) (loadN L limit ks names l) (b + l.length) :=
  ⟨h.l64, h.sig, hl.ok.store, hl.ok.dst, hl.ok.nms, by have := hl.ok.len; have := h.klen; simp only at *; omega, by have := hl.ok.flat; have := h.flat; simp only at *; omega, by have := hl.ok.olen; have := h.nlen; simp only at *; omega⟩
theorem tab_same (ks : List (List Int)) (sl : List Int) : tabB ks sl ks sl = true := by
  unfold tabB
  rw [(rowsB_iff ks ks).2 rfl, (eqL_iff sl sl).2 rfl]
  rfl

/-- in memory -/
structure Sto (w : World) (R A S B : Option Addr) (L : List Sig) (ks : List (List Int)) (names : List ByteArray) : Prop where
  row : Row w w.heap.size R L
  keys : Keys w w.heap.size A ks
  slots : Ints w w.heap.size S (layI ks)
  nms : Rds w w.heap.size B (cellsS names)
theorem Sto.q {w w' : World} {R A S B : Option Addr} {L : List Sig} {ks : List (List Int)} {names : List ByteArray} (h : Sto w R A S B L ks names) (q : Q w w') : Sto w' R A S B L ks names :=
  ⟨(h.row.q (Nat.le_refl _) q).more q.size, (h.keys.q (Nat.le_refl _) q).more q.size, (h.slots.q (Nat.le_refl _) q).more q.size, h.nms.q q⟩
/-- what Load answers -/
def LoadPost (K : List (List Int)) (N : List ByteArray) (I E : Int) (w : World) (e : Ending) (w' : World) : Prop :=
  ∃ A c S d B b, e = .returned (.tuple #[.agg #[.slice A K.length c, .slice S (layI K).length d], .slice B N.length b, .int .i64 I, .int .i64 E]) ∧ Keys w' w'.heap.size A K ∧ Ints w' w'.heap.size S (layI K) ∧ Rds w' w'.heap.size B (cellsS N) ∧ Q w w'
end Go.Proofs.YtdmdcggmgipdbaaGreatDoor.Ld

namespace Go.Proofs.YtdmdcggmgipdbaaGreatDoor.Ld
open Go.RowKit Kit Rw
open Go.Proofs.YtdmdcggmgipdbaaGreatDoor.Sg (Sig Row)
open Go.Proofs.YtdmdcggmgipdbaaGreatDoor.Tm (Tm)
open Go.Proofs.YtdmdcggmgipdbaaGreatDoor.Ex (cellsS str_at)
theorem teller_any (A B : Option Addr) (na ca nb cb : Nat) (w : World) :
    Calls Tryz.prog 34 #[.slice A na ca, .slice B nb cb] w fun e w' => e = .returned (.func (.func 67) #[] #[.pointer (some ⟨w.heap.size + 1, 0, none⟩), .pointer (some ⟨w.heap.size, 0, none⟩)]) ∧ w' = (w.alloc (.cells #[.slice A na ca] 22)).alloc (.cells #[.slice B nb cb] 27) := by
  go_enter Tryz.func34, Tryz.ntmps34
  go_wp2_with fail
  go_ret
  exact ⟨rfl, rfl⟩
def tellB (names : List ByteArray) (t : Tm) : Bool := !(t.k == 2 && decide ((names.length : Int) ≤ t.s))
def tellN (L : List Sig) (names : List ByteArray) (t : Tm) : Tg := if tellB names t = true then oneN L names t else (0, ⟨#[]⟩, 0)
theorem tell_not2 {names : List ByteArray} {t : Tm} (h : t.k ≠ 2) : tellB names t = true := by
  unfold tellB
  rw [beq_eq_false_iff_ne.2 h]; rfl
theorem tell_in {names : List ByteArray} {t : Tm} (h : t.s < (names.length : Int)) : tellB names t = true := by
  unfold tellB
  rw [decide_eq_false (by omega), Bool.and_false]; rfl
theorem tellN_of {L : List Sig} {names : List ByteArray} {t : Tm} (h : tellB names t = true) : tellN L names t = oneN L names t := by unfold tellN; rw [if_pos h]
theorem tell_out {L : List Sig} {names : List ByteArray} {t : Tm} (h2 : t.k = 2) (h : (names.length : Int) ≤ t.s) : tellB names t = false ∧ tellN L names t = (0, ⟨#[]⟩, 0) := by
  have hb : tellB names t = false := by
    unfold tellB
    rw [h2, decide_eq_true h]; rfl
  exact ⟨hb, by unfold tellN; rw [hb]; rfl⟩
/-- what a term of a store has, for its node -/
structure Told (L : List Sig) (t : Tm) : Prop where
  k0 : 0 ≤ t.k
  k6 : t.k ≤ 6
  x0 : t.k = 0 ∨ t.k = 1 ∨ t.k = 2 → t.xs.length = 0
  x2 : t.k = 4 ∨ t.k = 5 → t.xs.length = 2
  c2 : t.k = 2 → 0 ≤ t.s
  c3 : t.k = 3 ∨ t.k = 6 → 0 ≤ t.s ∧ t.s < (L.length : Int)
  c6 : t.k = 6 → 0 ≤ t.p ∧ t.p ≤ 1000
set_option maxRecDepth 100000 in
set_option maxHeartbeats 4000000 in
theorem tell_any (Bn Bl : Nat) (A B E : Option Addr) (ca cb ne ce : Nat) (L : List Sig) (names : List ByteArray) (t : Tm) (w : World) (hne : ne = t.xs.length) (hBn : Bn < w.heap.size) (hBl : Bl < w.heap.size) (cn : w.cell? ⟨Bn, 0, none⟩ = some (.slice B names.length cb)) (cl : w.cell? ⟨Bl, 0, none⟩ = some (.slice A L.length ca))
    (hL : Row w w.heap.size A L) (hN : Rds w w.heap.size B (cellsS names)) (ht : Told L t) :
    Calls Tryz.prog 67 #[.agg #[.int .i64 t.k, .int .i64 t.s, .int .i64 t.p, .slice E ne ce], .pointer (some ⟨Bn, 0, none⟩), .pointer (some ⟨Bl, 0, none⟩)] w fun e w' => e = .returned (.tuple #[.agg #[.int .i64 (tellN L names t).1, .string (tellN L names t).2.1, .int .i64 (tellN L names t).2.2], .bool (tellB names t)]) ∧ Q w w' := by
  subst hne
  obtain ⟨k0, k6, x0, x2, c2, c3, c6⟩ := ht
  by_cases k2 : t.k = 2
  · have hx := x0 (.inr (.inr k2))
    obtain ⟨j, hj⟩ := Int.eq_ofNat_of_zero_le (c2 k2)
    by_cases hjl : j < names.length
    · obtain ⟨ad, rfl, hb, y0⟩ := str_at hN hjl
      have hB := tell_in (names := names) (t := t) (by omega)
      have HO : Hid (tellN L names t = (2, names[j], 0)) := by
        have := one_2 L names k2
        rw [hj, Int.toNat_natCast, List.getElem?_eq_getElem hjl] at this
        exact (tellN_of hB).trans this
      have q0 := (((Q.refl w).alloc (Obj.cells #[.int .i64 2, .int .i64 (j : Int), .int .i64 t.p, .slice E t.xs.length ce] 77)).alloc (Obj.cells #[.int .i64 0, .string ⟨#[]⟩, .int .i64 0] 67)).alloc (Obj.cells #[.int .i64 2, .string ⟨#[]⟩, .int .i64 0] 67)
      have y0' := (q0.cell (p := ad.add j) (by rw [Rw.add_block]; exact hb)).trans y0
      have cn' := (q0.cell (p := ⟨Bn, 0, none⟩) hBn).trans cn
      rw [HO.out, hB, k2, hj, hx]
      clear x0 x2 c2 c3 c6 hL hN y0 cn cl hB k0 k6 k2 hj
      rw [hx] at q0 y0' cn'
      go_enter Tryz.func67, Tryz.ntmps67
      go_wp2_with fail
      exact bodyPost_ret (v := .tuple #[.agg #[.int .i64 2, .string names[j], .int .i64 0], .bool true]) (by simp [results, Tryz.f67, go_sem]) rfl ⟨rfl, (((Q.refl w).alloc _).alloc _).alloc _⟩
    · obtain ⟨hB, hO⟩ := tell_out (L := L) (names := names) (t := t) k2 (by omega)
      have HO := Lib.hid hO
      have q0 := (((Q.refl w).alloc (Obj.cells #[.int .i64 2, .int .i64 (j : Int), .int .i64 t.p, .slice E t.xs.length ce] 77)).alloc (Obj.cells #[.int .i64 0, .string ⟨#[]⟩, .int .i64 0] 67)).alloc (Obj.cells #[.int .i64 2, .string ⟨#[]⟩, .int .i64 0] 67)
      have cn' := (q0.cell (p := ⟨Bn, 0, none⟩) hBn).trans cn
      rw [HO.out, hB, k2, hj, hx]
      clear x0 x2 c2 c3 c6 hL hN cn cl hB hO k0 k6 k2 hj
      rw [hx] at q0 cn'
      go_enter Tryz.func67, Tryz.ntmps67
      go_wp2_with fail
      exact bodyPost_ret (v := .tuple #[.agg #[.int .i64 0, .string ⟨#[]⟩, .int .i64 0], .bool false]) (by simp [results, Tryz.f67, go_sem]) rfl ⟨rfl, (((Q.refl w).alloc _).alloc _).alloc _⟩
  · have hB := tell_not2 (names := names) k2
    by_cases k3 : t.k = 3
    · obtain ⟨s0, s1⟩ := c3 (.inl k3)
      obtain ⟨j, hj⟩ := Int.eq_ofNat_of_zero_le s0
      have hjl : j < L.length := by omega
      obtain ⟨ad, rfl, hb, y0, _⟩ := hL.at_ hjl
      have HO : Hid (tellN L names t = (3, L[j].1, (t.xs.length : Int))) := by
        have := one_3 L names k3
        rw [hj, nameP_at hjl] at this
        exact (tellN_of hB).trans this
      have q0 := (((Q.refl w).alloc (Obj.cells #[.int .i64 3, .int .i64 (j : Int), .int .i64 t.p, .slice E t.xs.length ce] 77)).alloc (Obj.cells #[.int .i64 0, .string ⟨#[]⟩, .int .i64 0] 67)).alloc (Obj.cells #[.int .i64 3, .string ⟨#[]⟩, .int .i64 (t.xs.length : Int)] 67)
      have y0' := (q0.cell (p := ad.add (j * 2)) (by rw [Rw.add_block]; exact hb)).trans y0
      have cl' := (q0.cell (p := ⟨Bl, 0, none⟩) hBl).trans cl
      rw [HO.out, hB, k3, hj]
      clear x0 x2 c2 c3 c6 hL hN y0 cn cl hB k0 k6 k2 k3 hj s0 s1
      go_enter Tryz.func67, Tryz.ntmps67
      go_wp2_with fail
      exact bodyPost_ret (v := .tuple #[.agg #[.int .i64 3, .string L[j].1, .int .i64 (t.xs.length : Int)], .bool true]) (by simp [results, Tryz.f67, go_sem]) rfl ⟨rfl, (((Q.refl w).alloc _).alloc _).alloc _⟩
    · by_cases k6' : t.k = 6
      · obtain ⟨s0, s1⟩ := c3 (.inr k6')
        obtain ⟨p0, p1⟩ := c6 k6'
        obtain ⟨j, hj⟩ := Int.eq_ofNat_of_zero_le s0
        have hjl : j < L.length := by omega
        obtain ⟨ad, rfl, hb, y0, _⟩ := hL.at_ hjl
        have HO : Hid (tellN L names t = (6, L[j].1, t.p + 1)) := by
          have := one_6 L names k6'
          rw [hj, nameP_at hjl] at this
          exact (tellN_of hB).trans this
        have hwr : IntKind.i64.wrap (t.p + 1) = t.p + 1 := IntWalk.i64_in _ (by omega)
        have q0 := (((Q.refl w).alloc (Obj.cells #[.int .i64 6, .int .i64 (j : Int), .int .i64 t.p, .slice E t.xs.length ce] 77)).alloc (Obj.cells #[.int .i64 0, .string ⟨#[]⟩, .int .i64 0] 67)).alloc (Obj.cells #[.int .i64 6, .string ⟨#[]⟩, .int .i64 (t.xs.length : Int)] 67)
        have y0' := (q0.cell (p := ad.add (j * 2)) (by rw [Rw.add_block]; exact hb)).trans y0
        have cl' := (q0.cell (p := ⟨Bl, 0, none⟩) hBl).trans cl
        rw [HO.out, hB, k6', hj]
        clear x0 x2 c2 c3 c6 hL hN y0 cn cl hB k0 k6 k2 k3 k6' hj s0 s1
        go_enter Tryz.func67, Tryz.ntmps67
        go_wp2_with fail
        exact bodyPost_ret (v := .tuple #[.agg #[.int .i64 6, .string L[j].1, .int .i64 (t.p + 1)], .bool true]) (by simp [results, Tryz.f67, go_sem]) rfl ⟨rfl, (((Q.refl w).alloc _).alloc _).alloc _⟩
      · by_cases k45 : t.k = 4 ∨ t.k = 5
        · have hx := x2 k45
          have HO := Lib.hid ((tellN_of hB).trans (one_45 L names k45))
          rw [HO.out, hB, hx]
          clear x0 x2 c2 c3 c6 hL hN cn cl hB k0 k6 k2 k3 k6' hx HO
          rcases k45 with k | k
          · rw [k]
            go_enter Tryz.func67, Tryz.ntmps67
            go_wp2_with fail
            exact bodyPost_ret (v := .tuple #[.agg #[.int .i64 4, .string ⟨#[]⟩, .int .i64 2], .bool true]) (by simp [results, Tryz.f67, go_sem]) rfl ⟨rfl, (((Q.refl w).alloc _).alloc _).alloc _⟩
          · rw [k]
            go_enter Tryz.func67, Tryz.ntmps67
            go_wp2_with fail
            exact bodyPost_ret (v := .tuple #[.agg #[.int .i64 5, .string ⟨#[]⟩, .int .i64 2], .bool true]) (by simp [results, Tryz.f67, go_sem]) rfl ⟨rfl, (((Q.refl w).alloc _).alloc _).alloc _⟩
        · have k01 : t.k = 0 ∨ t.k = 1 := by omega
          have hx := x0 (by omega)
          have HO := Lib.hid ((tellN_of hB).trans (one_else L names (t := t) (by omega)))
          rw [HO.out, hB, hx]
          clear x0 x2 c2 c3 c6 hL hN cn cl hB k0 k6 k2 k3 k6' hx k45 HO
          rcases k01 with k | k
          · rw [k]
            go_enter Tryz.func67, Tryz.ntmps67
            go_wp2_with fail
            exact bodyPost_ret (v := .tuple #[.agg #[.int .i64 0, .string ⟨#[]⟩, .int .i64 0], .bool true]) (by simp [results, Tryz.f67, go_sem]) rfl ⟨rfl, (((Q.refl w).alloc _).alloc _).alloc _⟩
          · rw [k]
            go_enter Tryz.func67, Tryz.ntmps67
            go_wp2_with fail
            exact bodyPost_ret (v := .tuple #[.agg #[.int .i64 1, .string ⟨#[]⟩, .int .i64 0], .bool true]) (by simp [results, Tryz.f67, go_sem]) rfl ⟨rfl, (((Q.refl w).alloc _).alloc _).alloc _⟩
end Go.Proofs.YtdmdcggmgipdbaaGreatDoor.Ld

namespace Go.Proofs.YtdmdcggmgipdbaaGreatDoor.Ex
open Go.RowKit Kit Rw
open Go.Proofs.YtdmdcggmgipdbaaGreatDoor.Nm

/-- no more than so many are open at once -/
def Fine (s : List UInt8) (D : Nat) : Prop := ∀ o : Int, o + (D : Int) ≤ 40 → okL o s = true
theorem Fine.calm {s : List UInt8} (h : Calm s) (D : Nat) : Fine s D := fun o ho => h.ok (by omega)
theorem Fine.one {c : UInt8} (h : c ≠ 40 ∧ c ≠ 41) (D : Nat) : Fine [c] D := Fine.calm (fun b hb => by rw [List.mem_singleton.1 hb]; exact h) D
theorem Fine.app {a b : List UInt8} {D : Nat} (ha : Flat a) (h : Fine a D) (k : Fine b D) : Fine (a ++ b) D := fun o ho => by
  rw [okL_app, h o ho, ha o, k o ho]; rfl
theorem Fine.brack {a : List UInt8} {D : Nat} (hf : Flat a) (h : Fine a D) : Fine (40 :: (a ++ [41])) (D + 1) := fun o ho => by
  have h1 : okL (o + 1) a = true := h (o + 1) (by omega)
  have h2 : okL (o + 1) [41] = true := by
    simp only [okL]
    rw [show stepO (o + 1) 41 = o by simp [stepO], if_neg (by omega)]
  simp only [okL]
  rw [show stepO o 40 = o + 1 by simp [stepO], if_neg (by omega), okL_app, h1, hf (o + 1), h2]
  rfl
theorem Fine.mono {s : List UInt8} {D E : Nat} (h : Fine s D) (hE : D ≤ E) : Fine s E := fun o ho => h o (by omega)
def Good9 (e : Ex) : Prop := Flat e.text ∧ Fine e.text e.deep
theorem con_fine {D : Nat} (ks : List Ex) (h : ∀ e ∈ ks, Good9 e) (hD : ∀ e ∈ ks, e.deep ≤ D) : Flat (conL false (textsP ks)) ∧ Fine (conL false (textsP ks)) D := by
  induction ks with
  | nil => exact ⟨Flat.nil, Fine.calm (fun b hb => by cases hb) D⟩
  | cons e ks ih =>
    obtain ⟨i1, i2⟩ := ih (fun x hx => h x (List.mem_cons_of_mem _ hx)) (fun x hx => hD x (List.mem_cons_of_mem _ hx))
    have he := h e (by simp)
    have hc : Flat [44] := Flat.one (by decide)
    refine ⟨?_, ?_⟩
    · show Flat ([44] ++ (e.text ++ conL false (textsP ks)))
      exact hc.app (he.1.app i1)
    · show Fine ([44] ++ (e.text ++ conL false (textsP ks))) D
      exact Fine.app hc (Fine.one (by decide) D) (Fine.app he.1 (he.2.mono (hD e (by simp))) i2)
theorem deepL_in (k : Int) (hk : k = 3 ∨ k = 6) : ∀ (ks : List Ex), ∀ e ∈ ks, e.deep + 1 ≤ deepL k ks
  | [], e, h => by cases h
  | f :: ks, e, h => by
    simp only [deepL]
    have hb : inBr k f.root.1 ks.isEmpty = true := by unfold inBr; rw [if_pos hk]
    rw [if_pos hb]
    rcases List.mem_cons.1 h with rfl | h
    · exact Nat.le_max_left _ _
    · exact Nat.le_trans (deepL_in k hk ks e h) (Nat.le_max_right _ _)
theorem side_fine (k : Int) (first : Bool) (e : Ex) (h : Good9 e) : Flat (sideL k first (e.root.1, e.text)) ∧ Fine (sideL k first (e.root.1, e.text)) (e.deep + (if (e.root.1 = 4 ∨ e.root.1 = 5) ∧ (first = false ∨ e.root.1 ≠ k) then 1 else 0)) := by
  unfold sideL
  by_cases hc : (e.root.1 = 4 ∨ e.root.1 = 5) ∧ (first = false ∨ e.root.1 ≠ k)
  · rw [if_pos hc, if_pos hc]
    exact ⟨h.1.brack, h.2.brack h.1⟩
  · rw [if_neg hc, if_neg hc]
    exact h
theorem fine_step (n : Tg) (ks : List Ex) (hm : mayN n = true) (hk : ks.length = np n) (h : ∀ e ∈ ks, Good9 e) : Fine (txt n (textsP ks)) (deepL n.1 ks) := by
  have hks := may_kinds hm
  have two : n.1 = 4 ∨ n.1 = 5 → ∃ e f, ks = [e, f] := fun hh => by
    have := np_two hm hh
    rw [this] at hk
    match ks, hk with
    | [e, f], _ => exact ⟨e, f, rfl⟩
  have calm0 : n.1 = 2 ∨ n.1 = 3 ∨ n.1 = 6 → ∀ D, Fine (nm n) D := fun hh D => Fine.calm (calm_nm hm hh).1 D
  unfold txt
  by_cases h0 : n.1 = 0
  · rw [if_pos h0]; exact Fine.one (by decide) _
  rw [if_neg h0]
  by_cases h1 : n.1 = 1
  · rw [if_pos h1]; exact Fine.one (by decide) _
  rw [if_neg h1]
  by_cases h3 : n.1 = 3
  · rw [if_pos h3, List.append_assoc]
    have hf := Flat.calm (calm_nm hm (.inr (.inl h3))).1
    refine Fine.app hf (calm0 (.inr (.inl h3)) _) ?_
    cases ks with
    | nil =>
      simp only [textsP, conL, if_true, List.append_nil]
      exact Fine.calm (fun b hb => by cases hb) _
    | cons e ks =>
      rw [if_neg (by simp [textsP])]
      have e1 : conL true (textsP (e :: ks)) ++ [41] = 40 :: ((e.text ++ conL false (textsP ks)) ++ [41]) := rfl
      rw [e1]
      have hin := deepL_in n.1 (.inl h3) (e :: ks)
      obtain ⟨D, hD⟩ : ∃ D, deepL n.1 (e :: ks) = D + 1 := ⟨deepL n.1 (e :: ks) - 1, by have := hin e (by simp); omega⟩
      rw [hD] at hin ⊢
      obtain ⟨i1, i2⟩ := con_fine (D := D) ks (fun x hx => h x (List.mem_cons_of_mem _ hx)) (fun x hx => by have := hin x (List.mem_cons_of_mem _ hx); omega)
      have he := h e (by simp)
      exact Fine.brack (he.1.app i1) (Fine.app he.1 (he.2.mono (by have := hin e (by simp); omega)) i2)
  rw [if_neg h3]
  have join : ∀ (k : Int) (c : UInt8), (c ≠ 40 ∧ c ≠ 41) → (k = 4 ∨ k = 5) → n.1 = k → Fine (sideL k true (nth (textsP ks) 0) ++ c :: sideL k false (nth (textsP ks) 1)) (deepL n.1 ks) := fun k c hc hk45 hnk => by
    obtain ⟨e, f, rfl⟩ := two (by rw [hnk]; exact hk45)
    obtain ⟨s1, s2⟩ := side_fine k true e (h e (by simp))
    obtain ⟨_, t2⟩ := side_fine k false f (h f (by simp))
    rw [hnk]
    simp only [deepL, List.isEmpty_cons, List.isEmpty_nil]
    have i1 := inBr_side k hk45 e.root.1 true
    have i2 := inBr_side k hk45 f.root.1 false
    rw [Bool.not_true] at i1
    rw [Bool.not_false] at i2
    rw [i1, i2, Nat.max_zero]
    exact Fine.app s1 (s2.mono (Nat.le_max_left _ _)) (Fine.app (a := [c]) (Flat.one hc) (Fine.one hc _) (t2.mono (Nat.le_max_right _ _)))
  by_cases h4 : n.1 = 4
  · rw [if_pos h4]; exact join 4 124 (by decide) (.inl rfl) h4
  rw [if_neg h4]
  by_cases h5 : n.1 = 5
  · rw [if_pos h5]; exact join 5 38 (by decide) (.inr rfl) h5
  rw [if_neg h5]
  by_cases h6 : n.1 = 6
  · rw [if_pos h6]
    obtain ⟨hnp, m, hm1, hm2, hm3⟩ := np_proj hm h6
    rw [hnp] at hk
    obtain ⟨e, rfl⟩ : ∃ e, ks = [e] := by
      match ks, hk with
      | [e], _ => exact ⟨e, rfl⟩
    have he := h e (by simp)
    have hf := Flat.calm (calm_nm hm (.inr (.inr h6))).1
    have hd : figD n.2.2.toNat ≠ 40 ∧ figD n.2.2.toNat ≠ 41 := by
      rw [hm1, Int.toNat_natCast]
      have : m = 1 ∨ m = 2 ∨ m = 3 ∨ m = 4 ∨ m = 5 ∨ m = 6 ∨ m = 7 ∨ m = 8 := by omega
      rcases this with rfl | rfl | rfl | rfl | rfl | rfl | rfl | rfl <;> decide
    have e1 : nm n ++ 126 :: figD n.2.2.toNat :: 40 :: ((nth (textsP [e]) 0).2 ++ [41]) = nm n ++ ([126] ++ ([figD n.2.2.toNat] ++ (40 :: (e.text ++ [41])))) := rfl
    rw [e1]
    have hin := deepL_in n.1 (.inr h6) [e] e (by simp)
    exact Fine.app hf (calm0 (.inr (.inr h6)) _) (Fine.app (Flat.one (c := 126) (by decide)) (Fine.one (by decide) _) (Fine.app (Flat.one hd) (Fine.one hd _) ((he.2.brack he.1).mono hin)))
  · rw [if_neg h6]
    exact calm0 (by omega) _
mutual
theorem fine_tree : ∀ (e : Ex), e.wf → (∀ t ∈ e.nodes, mayN t = true) → Good9 e
  | .mk n ks, hw, hm => ⟨(deep_tree (.mk n ks) hw hm).1, fine_step n ks (hm n (by simp [Ex.nodes])) hw.1 (fine_trees ks hw.2 fun t ht => hm t (by simp [Ex.nodes, ht]))⟩
theorem fine_trees : ∀ (ks : List Ex), wfL ks → (∀ t ∈ nodesL ks, mayN t = true) → ∀ e ∈ ks, Good9 e
  | [], _, _ => fun _ h => by cases h
  | e :: ks, hw, hm => fun x hx => by
    rcases List.mem_cons.1 hx with h | hx
    · rw [h]; exact fine_tree e hw.1 fun t ht => hm t (by simp [nodesL, ht])
    · exact fine_trees ks hw.2 (fun t ht => hm t (by simp [nodesL, ht])) x hx
end
theorem right_deep {x : Ex} (hw : x.wf) (hm : ∀ t ∈ x.nodes, mayN t = true) : rightB x.nodes = decide (x.deep ≤ 40) := by
  have hr := run_tree x [] hw
  have hc : countN 0 x.nodes = some 1 := run_count x.nodes [] [x] hm hr
  have hpos := size_pos x
  unfold Ex.size at hpos
  have htx : textAt x.nodes (x.nodes.length - 1) = x.text := by
    refine text_of ?_
    unfold treeAt
    rw [show x.nodes.length - 1 + 1 = x.nodes.length by omega, List.take_length, hr]
    rfl
  have e1 : rightB x.nodes = okL 0 x.text := by
    unfold rightB
    rw [hc, htx]
    rfl
  rw [e1, Bool.eq_iff_iff, decide_eq_true_eq]
  constructor
  · intro h
    have := (deep_tree x hw hm).2 0 h
    omega
  · intro h
    exact (fine_tree x hw hm).2 0 (by omega)
end Go.Proofs.YtdmdcggmgipdbaaGreatDoor.Ex

namespace Go.Proofs.YtdmdcggmgipdbaaGreatDoor.Ld
open Go.RowKit Kit Rw
open Go.Proofs.YtdmdcggmgipdbaaGreatDoor.Sg (Sig Row)
open Go.Proofs.YtdmdcggmgipdbaaGreatDoor.Tm (Tm Store ofKey mayB standB hasB partsN isKindB arity arity_at isPl isPl_iff Made argsOf)
open Go.Proofs.YtdmdcggmgipdbaaGreatDoor.Ex (Ex mayN nodesL rightB right_deep)
theorem told_store {L : List Sig} {ks : List (List Int)} (hS : Store L ks) (hl8 : ∀ s ∈ L, s.2.size ≤ 8) {y : Nat} (hy : y < ks.length) : Told L (tmP ks y) ∧ ((tmP ks y).k = 3 → (tmP ks y).xs.length ≤ 8) ∧ ((tmP ks y).k = 6 → (tmP ks y).p ≤ 7) := by
  obtain ⟨h2, h3, h6⟩ := term_has hS hl8 hy
  have hM := (parts_ahead hS (List.getElem?_eq_getElem hy)).2.1
  rw [← tmP_at hy] at hM
  generalize tmP ks y = t at *
  unfold mayB at hM
  simp only [Bool.and_eq_true] at hM
  obtain ⟨⟨hst, hh⟩, _⟩ := hM
  unfold hasB at hh
  by_cases k3 : t.k = 3
  · rw [if_pos k3, beq_iff_eq] at hh
    obtain ⟨a, b⟩ := h3 (.inl k3)
    obtain ⟨j, hj⟩ := Int.eq_ofNat_of_zero_le a
    have hjl : j < L.length := by omega
    rw [hj, arity_at hjl] at hh
    have := hl8 _ (List.getElem_mem hjl)
    exact ⟨⟨by omega, by omega, fun e => by omega, fun e => by omega, h2, h3, h6⟩, fun _ => by omega, fun e => by omega⟩
  · rw [if_neg k3, Bool.and_eq_true, beq_iff_eq] at hh
    obtain ⟨hk, hx⟩ := hh
    unfold partsN at hx
    unfold isKindB at hk
    simp only [Bool.or_eq_true, beq_iff_eq] at hk
    refine ⟨⟨by omega, by omega, fun e => ?_, fun e => ?_, h2, h3, h6⟩, fun e => absurd e k3, fun e => ?_⟩
    · rw [if_neg (by omega), if_neg (by omega), if_neg (by omega)] at hx; omega
    · rcases e with e | e
      · rw [if_pos e] at hx; omega
      · rw [if_neg (by omega), if_pos e] at hx; omega
    · unfold standB at hst
      rw [if_neg (by omega), if_neg (by omega), if_pos e] at hst
      simp only [Bool.and_eq_true, isPl_iff] at hst
      obtain ⟨⟨a, b⟩, c, d⟩ := hst
      obtain ⟨j, hj⟩ := Int.eq_ofNat_of_zero_le a
      rw [hj] at d b
      have hjl : j < L.length := by omega
      rw [arity_at hjl] at d
      have := hl8 _ (List.getElem_mem hjl)
      omega
theorem one_may {L : List Sig} {ks : List (List Int)} {names : List ByteArray} {b : Nat} (h : StoOk L ks names b) {y : Nat} (hy : y < ks.length) (hv : (tmP ks y).k = 2 → (tmP ks y).s < (names.length : Int)) : mayN (oneN L names (tmP ks y)) = true := by
  obtain ⟨ht, g3, g6⟩ := told_store h.store h.l8 hy
  generalize tmP ks y = t at *
  have e0 : (⟨#[]⟩ : ByteArray).toList.isEmpty = true := by rw [ByteArray.toList_eq]; rfl
  have con : ∀ s : Int, 0 ≤ s → s < (L.length : Int) → Nm.nameB 97 122 (nameP L s).data.toList = true := fun s p q => by
    obtain ⟨j, rfl⟩ := Int.eq_ofNat_of_zero_le p
    have hj : j < L.length := by omega
    rw [nameP_at hj]
    exact (right1_at h.sig j hj).1
  by_cases k2 : t.k = 2
  · rw [one_2 L names k2]
    have p := ht.c2 k2
    obtain ⟨j, hj⟩ := Int.eq_ofNat_of_zero_le p
    have hjl : j < names.length := by have := hv k2; omega
    rw [hj, Int.toNat_natCast, List.getElem?_eq_getElem hjl]
    unfold mayN
    rw [if_neg (by simp), if_pos rfl]
    have := h.nms names[j] (List.getElem_mem hjl)
    simpa using this
  by_cases k3 : t.k = 3
  · rw [one_3 L names k3]
    obtain ⟨p, q⟩ := ht.c3 (.inl k3)
    have := g3 k3
    unfold mayN
    rw [if_neg (by simp), if_neg (by simp), if_pos rfl]
    simp only [Bool.and_eq_true, decide_eq_true_eq]
    exact ⟨con _ p q, by omega, by omega⟩
  by_cases k45 : t.k = 4 ∨ t.k = 5
  · rw [one_45 L names k45]
    unfold mayN
    rw [if_neg (by simp only; omega), if_neg (by simp only; omega), if_neg (by simp only; omega), if_pos (by simp only; omega), e0]
    rfl
  by_cases k6 : t.k = 6
  · rw [one_6 L names k6]
    obtain ⟨p, q⟩ := ht.c3 (.inr k6)
    have r := ht.c6 k6
    have := g6 k6
    unfold mayN
    rw [if_neg (by simp), if_neg (by simp), if_neg (by simp), if_neg (by simp), if_pos rfl]
    simp only [Bool.and_eq_true, decide_eq_true_eq]
    exact ⟨con _ p q, by omega, by omega⟩
  · rw [one_else L names (t := t) (by omega)]
    have p := ht.k0
    have q := ht.k6
    unfold mayN
    rw [if_pos (by simp only; omega), e0]
    rfl
theorem nodes_may {L : List Sig} {ks : List (List Int)} {names : List ByteArray} {b : Nat} (h : StoOk L ks names b) : ∀ (i : Nat), i < ks.length → VarsIn names ks i → ∀ t ∈ (exP L names ks i).nodes, mayN t = true := by
  intro i
  induction i using Nat.strongRecOn with
  | ind i ih =>
    intro hi hv t ht
    rw [nodes_eq h.store hi] at ht
    simp only [List.mem_append, List.mem_cons, List.not_mem_nil, or_false] at ht
    rcases ht with ht | rfl
    · have : ∀ (l : List Int), (∀ a ∈ l, a ∈ (tmP ks i).xs) → t ∈ nodesL (l.map fun a => exP L names ks a.toNat) → mayN t = true := by
        intro l
        induction l with
        | nil => intro _ h; cases h
        | cons a l ihl =>
          intro hl h'
          simp only [List.map_cons, nodesL, List.mem_append] at h'
          rcases h' with h' | h'
          · obtain ⟨p, q, _⟩ := part_small h.store hi (hl a (by simp))
            obtain ⟨m, _⟩ := made_part h.store hi .self (hl a (by simp))
            exact ih a.toNat (by omega) (by omega) (fun y hy => hv y (Made.trans m hy)) t h'
          · exact ihl (fun b hb => hl b (by simp [hb])) h'
      exact this _ (fun a h => h) ht
    · exact one_may h hi (hv i .self)
/-- no more places are below than nodes -/
theorem below_count {L : List Sig} {ks : List (List Int)} (hS : Store L ks) : ∀ (i : Nat), i < ks.length → ∃ M : List Nat, M.length = szP ks i ∧ ∀ y, Made ks i y → y ∈ M := by
  intro i
  induction i using Nat.strongRecOn with
  | ind i ih =>
    intro hi
    have hk := List.getElem?_eq_getElem hi
    obtain ⟨h3, _, hp⟩ := parts_ahead hS hk
    have ha := argsOf_at hk h3
    have each : ∀ (l : List Int), (∀ a ∈ l, a ∈ (ofKey ks[i]).xs) → ∃ M : List Nat, M.length = sumZ ks l ∧ ∀ a ∈ l, ∀ y, Made ks a.toNat y → y ∈ M := by
      intro l
      induction l with
      | nil => intro _; exact ⟨[], rfl, fun a h => by cases h⟩
      | cons a l ihl =>
        intro hl
        obtain ⟨M2, e2, g2⟩ := ihl fun b hb => hl b (by simp [hb])
        obtain ⟨p, q⟩ := hp a (hl a (by simp))
        obtain ⟨M1, e1, g1⟩ := ih a.toNat (by omega) (by omega)
        refine ⟨M1 ++ M2, by rw [List.length_append, e1, e2]; rfl, fun b hb y hy => ?_⟩
        rw [List.mem_append]
        rcases List.mem_cons.1 hb with rfl | hb
        · exact .inl (g1 y hy)
        · exact .inr (g2 b hb y hy)
    obtain ⟨M, e, g⟩ := each _ fun a h => h
    refine ⟨i :: M, by rw [List.length_cons, e, szP_eq hS hk]; omega, fun y hy => ?_⟩
    rcases made_top hy with rfl | ⟨a, h1, h2, h4⟩
    · simp
    · rw [ha] at h1
      have := g (a : Int) h1 y (by rw [Int.toNat_natCast]; exact h4)
      simp [this]
theorem below_few {L : List Sig} {ks : List (List Int)} (hS : Store L ks) {i : Nat} (hi : i < ks.length) {l : List Nat} (hso : l.Pairwise (· < ·)) (hm : ∀ y ∈ l, Made ks i y) : l.length ≤ szP ks i := by
  obtain ⟨M, e, g⟩ := below_count hS i hi
  have h1 := List.Pairwise.imp (S := fun a b : Nat => a ≠ b) (fun h => by omega) hso
  rw [← e]
  exact (List.nodup_iff_pairwise_ne.2 h1).length_le_of_subset fun y hy => g y (hm y hy)
theorem right_place {L : List Sig} {ks : List (List Int)} {names : List ByteArray} {b : Nat} (h : StoOk L ks names b) {i : Nat} (hi : i < ks.length) (hv : VarsIn names ks i) : rightB (exP L names ks i).nodes = decide ((exP L names ks i).deep ≤ 40) :=
  right_deep (exP_rep h.store h.dstL i hi hv).2 (nodes_may h i hi hv)
end Go.Proofs.YtdmdcggmgipdbaaGreatDoor.Ld
