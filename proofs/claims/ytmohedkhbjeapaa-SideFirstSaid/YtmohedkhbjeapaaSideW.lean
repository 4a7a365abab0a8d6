/-
  Contract of package side: Vars (a set of names that were seen).
-/
import Derived.Test.YtmohedkhbjeapaaSideV
import Derived.Test.YtmohedkhbjeapaaRef8K
import Derived.Maps.Own
import Derived.Maps.OwnOps
import Derived.Maps.OwnSet
namespace Go.Proofs.Ytmohedkhbjeapaa.Ex
open Go.RowKit Kit Rw Nm Go.Maps Go.WideMaps

theorem lawS : Keyed Try.prog 9 := string_keyed Try.underlying9
theorem zeroU (w : World) : (zeroValue 65).run Try.prog w = .ok (.agg #[]) w := by kernel_rfl
theorem name_size {t : Tg} (hm : mayN t = true) : t.2.1.size ≤ 20 := by
  have hk := may_kinds hm
  have h0 : ∀ b : Bool, (t.2.1.toList.isEmpty && b) = true → t.2.1.size ≤ 20 := fun b h => by
    rw [Bool.and_eq_true] at h
    have h1 := h.1
    rw [List.isEmpty_iff, ByteArray.toList_eq] at h1
    have h2 : t.2.1.data.toList.length = 0 := by rw [h1]; rfl
    have h3 : t.2.1.size = 0 := by simpa using h2
    omega
  have hN : ∀ lo hi : Int, nameB lo hi t.2.1.data.toList = true → t.2.1.size ≤ 20 := fun lo hi h => by
    by_cases hs : 20 < t.2.1.size
    · rw [nameB_long lo hi _ hs] at h; cases h
    · omega
  unfold mayN at hm
  by_cases h1 : t.1 = 0 ∨ t.1 = 1
  · rw [if_pos h1] at hm; exact h0 _ hm
  rw [if_neg h1] at hm
  by_cases h2 : t.1 = 2
  · rw [if_pos h2, Bool.and_eq_true] at hm; exact hN _ _ hm.1
  rw [if_neg h2] at hm
  by_cases h3 : t.1 = 3
  · rw [if_pos h3] at hm; simp only [Bool.and_eq_true] at hm; exact hN _ _ hm.1
  rw [if_neg h3] at hm
  by_cases h4 : t.1 = 4 ∨ t.1 = 5
  · rw [if_pos h4] at hm; exact h0 _ hm
  rw [if_neg h4] at hm
  have h6 : t.1 = 6 := by omega
  rw [if_pos h6] at hm; simp only [Bool.and_eq_true] at hm; exact hN _ _ hm.1

/-- block b is the set of these names -/
def SeenM (w : World) (b : Nat) (o : List ByteArray) : Prop := ∃ D : DataW Unit, w.ownsMap Try.prog 9 unitElem b o.length D ∧ ∀ nm : ByteArray, Maps.has D (.string nm.data.toList) = !decide (atS nm o 0 < 0)
theorem seen_made (w : World) : SeenM (w.alloc (.map #[] 0)) w.heap.size [] := ⟨_, World.ownsMap_made w _ _ _, fun _ => rfl⟩
theorem SeenM.kept {w w' : World} {b : Nat} {o : List ByteArray} (h : SeenM w b o) (hb : w'.heap[b]? = w.heap[b]?) : SeenM w' b o := by
  obtain ⟨D, ⟨es, clock, h1, h2⟩, h3⟩ := h
  exact ⟨D, ⟨es, clock, hb.trans h1, h2⟩, h3⟩
theorem SeenM.lt {w : World} {b : Nat} {o : List ByteArray} (h : SeenM w b o) : b < w.heap.size := by obtain ⟨D, h1, _⟩ := h; exact h1.lt
theorem seen_look {w : World} {b : Nat} {o : List ByteArray} (h : SeenM w b o) (nm : ByteArray) (hs : nm.size ≤ 20) :
    (Instr.lookup 64 (.map (some b)) (.string nm) true).run Try.prog w = .ok (.tuple #[.agg #[], .bool (!decide (atS nm o 0 < 0))]) w := by
  obtain ⟨D, h1, h2⟩ := h
  obtain ⟨v, ps, hrun, hv⟩ := h1.look_ok lawS Try.underlying64 (zeroU w) unitElem_mk (keyOf_string_mk Try.underlying9 (by unfold maxLen; omega : nm.size ≤ maxLen))
  obtain ⟨rfl, _⟩ := unitElem_inv hv
  rw [hrun, h2]
theorem seen_put {w : World} {b : Nat} {o : List ByteArray} (h : SeenM w b o) (nm : ByteArray) (hs : nm.size ≤ 20) (ho : o.length ≤ 1000) :
    ∃ w', (Instr.mapUpdate 64 (.map (some b)) (.string nm) (.agg #[])).run Try.prog w = .ok () w' ∧ SeenM w' b (o ++ [nm]) ∧ w.grownBy w' (some b) := by
  obtain ⟨D, h1, h2⟩ := h
  obtain ⟨w', hrun, h3, hg⟩ := h1.update (val := .agg #[]) lawS Try.underlying64 (by unfold maxLen; omega) (keyOf_string_mk Try.underlying9 (by unfold maxLen; omega : nm.size ≤ maxLen)) unitElem_mk
  refine ⟨w', hrun, ⟨_, by rw [List.length_append]; exact h3, fun x => ?_⟩, hg⟩
  by_cases e : x = nm
  · subst e
    rw [Maps.has_put_same h1.isMap (by trivial)]
    have : ¬ atS x (o ++ [x]) 0 < 0 := by rw [atS_neg]; simp
    simp [this]
  · rw [Maps.has_put_other (fun h => e (by
      injection h with h
      exact ByteArray.ext (Array.toList_inj.mp h))), h2]
    congr 1
    have : atS x (o ++ [nm]) 0 < 0 ↔ atS x o 0 < 0 := by rw [atS_neg, atS_neg]; simp [e]
    simp [this]

def SideVars (V : List ByteArray) (w : World) (e : Ending) (w' : World) : Prop := ∃ A c, e = .returned (.slice A V.length c) ∧ Rds w' w'.heap.size A (cellsS V) ∧ Q w w'

theorem own_grownM {w w' : World} {g gs : Nat} {cs : List Value} (h : OwnC w gs cs) (gr : w.grownBy w' (some g)) (hne : gs ≠ g) : OwnC w' gs cs := by
  have hb := gr.block gs h.1 (fun e => hne (by injection e))
  exact ⟨Nat.lt_of_lt_of_le h.1 gr.size, fun i x hx => ⟨(World.cell?_of_block (a := ⟨gs, i, none⟩) hb).trans (h.2 i x hx).1, by rw [← (h.2 i x hx).2]; unfold World.frozen?; rw [hb]⟩⟩

set_option maxRecDepth 100000 in
set_option maxHeartbeats 4000000 in
theorem sideVars_any (A : Option Addr) (n c : Nat) (l : List Tg) (w : World) (hn : n = l.length) (hr : Rds w w.heap.size A (cellsG l)) (hl : l.length ≤ 1000) (hmay : ∀ t ∈ l, mayN t = true) :
    Calls Try.prog 17 #[.slice A n c] w (SideVars (varsF l []) w) := by
  subst hn
  obtain ⟨i0, hi, hz0, hz1, hz2⟩ := info_parts strInfo
  have Hi := Lib.hid hi
  have Hz0 := Lib.hid hz0
  have Hz1 := Lib.hid hz1
  have Hz2 := Lib.hid hz2
  have HR := Lib.hid hr
  have HM := Lib.hid hmay
  have hmm := @run_makeMap Try.prog
  have HM0 := Lib.hid (seen_made w)
  have HQ0 := Lib.hid ((Q.refl w).alloc (.map #[] 0))
  clear hi hz0 hz1 hz2 hr hmay
  go_enter Try.func17, Try.ntmps17
  go_wp2_with fail
  obtain ⟨b, hb⟩ : ∃ b, b = w.heap.size := ⟨_, rfl⟩
  have HB := Lib.hid (Nat.le_of_eq hb.symm)
  have HB0 : Hid (b < (w.alloc (.map #[] 0)).heap.size) := by rw [hb]; exact Lib.hid (by simp)
  rw [← hb] at HM0 ⊢
  clear hb hmm
  generalize w.alloc (.map #[] 0) = W0 at *
  go_loopw [3, 12] (fun v i wr => ∃ (k : Nat) (o : List ByteArray), k ≤ l.length ∧ o.length ≤ k ∧ i = .int .i64 k ∧ Hid (varsF l [] = varsF (l.drop k) o) ∧ Hid (wr.ownsRow W0.heap.size 9 1 v o.length (cellsS o)) ∧ Hid (SeenM wr b o) ∧ Hid (Q w wr) ∧ Hid (W0.heap.size ≤ wr.heap.size)) (fun _ i _ => l.length - (intOf i).toNat)
  case atStart => exact ⟨0, [], Nat.zero_le _, Nat.le_refl _, rfl, Lib.hid (by simp), Lib.hid (own_nil _ _ _ _), HM0, HQ0, Nat.le_refl _⟩
  case round =>
    clear HM0 HQ0
    obtain ⟨k, o, hk, hok, rfl, HV, HO, HS, HQ, HZ⟩ := hrel
    obtain ⟨A2, c2', hve, _, hro⟩ := own_read HO.out
    subst hve
    by_cases hlt : k < l.length
    · obtain ⟨ad, hBe, hb, c0, c1, c2⟩ := tok_at (HR.out.q HQ.out) hlt
      subst hBe
      have HSt := Lib.hid (varsF_at l o k hlt)
      have hsz := name_size (HM.out l[k] (List.getElem_mem hlt))
      clear hro
      generalize l[k].1 = kd at *
      generalize l[k].2.1 = nm at *
      generalize l[k].2.2 = N at *
      have hq1 := (Q.refl wr).alloc (Obj.cells #[.int .i64 kd, .string nm, .int .i64 N] 38)
      have HO1 := Lib.hid (own_new8 wr [.int .i64 kd, .string nm, .int .i64 N] 38)
      have hS1 := HS.out.kept (hq1.block b HS.out.lt)
      have hlook := seen_look hS1 nm hsz
      have hq2 := hq1.alloc (Obj.cells #[] 65)
      have HO3 := Lib.hid (row_kept HO.out hq2 (Nat.le_refl _))
      have HS3 := Lib.hid (HS.out.kept (hq2.block b HS.out.lt))
      have HQ3 := Lib.hid (HQ.out.trans hq2)
      have HN3 := Lib.hid (HO1.out.q ((Q.refl _).alloc (Obj.cells #[] 65)))
      have HBl := Lib.hid HS.out.lt
      have HZ3 := Lib.hid (Nat.le_trans HZ.out hq2.size)
      clear hq1 hq2 hS1
      by_cases hat : atS nm o 0 < 0
      · by_cases h2 : kd = 2
        · have e2 : (kd == 2) = true := beq_iff_eq.2 h2
          have e2' : (kd != 2) = false := by simp [h2]
          rw [decide_eq_true hat] at hlook
          have HS2 : Hid (varsF l [] = varsF (l.drop (k + 1)) (o ++ [nm])) := by
            have := HSt.out
            rw [if_pos ⟨h2, hat⟩] at this
            exact Lib.hid (HV.out.trans this)
          obtain ⟨w4, hput, hS4, hg4⟩ := seen_put HS3.out nm hsz (by omega)
          have hne : wr.heap.size ≠ b := by have := HBl.out; omega
          have hN4 := own_grownM HN3.out hg4 hne
          have x0 := (hN4.2 0 _ rfl).1
          have x1 := (hN4.2 1 _ rfl).1
          have HN4 := Lib.hid hN4
          have hO4 := HO3.out.kept (row := some b) hg4 (.inr fun e => by have := (HO3.out.lt b e).1; have := HB0.out; omega)
          have HQ4 : Hid (Q w w4) := Below.grown HQ3.out hg4 HQ3.out.size (fun i e => by injection e with e; subst e; exact HB.out)
          have qE := (Q.refl w4).alloc (Obj.cells #[.string nm] 9)
          have HQE := Lib.hid (HQ4.out.trans qE)
          have HOE := Lib.hid (row_kept hO4 qE (Nat.le_refl _))
          have HSE : Hid (Src (w4.alloc (Obj.cells #[.string nm] 9)) (some ⟨w4.heap.size, 0, none⟩) [.string nm]) := src_alloc w4 [.string nm] 9 (0, 0)
          have HZE : Hid (W0.heap.size ≤ (w4.alloc (Obj.cells #[.string nm] 9)).heap.size) := Nat.le_trans (Nat.le_trans HZ3.out hg4.size) qE.size
          have HS5 := Lib.hid (hS4.kept (qE.block b hS4.lt))
          have HBw := Lib.hid (hS4.kept (qE.block b hS4.lt)).lt
          clear h2 hat HSt hO4 qE hS4 hg4 hN4
          go_wp2_with (at_builtin; refine wpList_append_src _ rfl (.tmp 33) (.tmp 36) _ rfl W0.heap.size 9 i0 _ 1 16 Try.underlying34 Hi.out Hz0.out Hz1.out Hz2.out rfl (by omega) (.slice A2 o.length c2') o.length (cellsS o) rfl HOE.out (some ⟨w4.heap.size, 0, none⟩) 1 1 [.string nm] rfl rfl HSE.out (by simp [Value.oneCell']) (by unfold maxLen; omega) (by omega) HZE.out ?_; intro v' w' own' gr' _)
          have HO6 : Hid (w'.ownsRow W0.heap.size 9 1 v' (o ++ [nm]).length (cellsS (o ++ [nm]))) := by
            unfold Hid
            rw [List.length_append, cellsS_append]
            exact own'
          have HQ6 : Hid (Q w w') := Below.grown HQE.out gr' HQE.out.size (fun i e => by have := (HOE.out.lt i e).1; have h1 := HB0.out; have h2 := HB.out; omega)
          have HS6 : Hid (SeenM w' b (o ++ [nm])) := HS5.out.kept (gr'.block b HBw.out (fun e => by have := (HOE.out.lt b e.symm).1; have := HB0.out; omega))
          have HZ6 : Hid (W0.heap.size ≤ w'.heap.size) := Nat.le_trans HZE.out gr'.size
          clear own' gr'
          go_roundw
          case rel => exact ⟨k + 1, o ++ [nm], by omega, by simp; omega, by go_num, HS2, HO6, HS6, HQ6, HZ6⟩
          case measure => simp [intOf]; omega
        · have e2 : (kd == 2) = false := beq_eq_false_iff_ne.2 h2
          have e2' : (kd != 2) = true := by simp [h2]
          rw [decide_eq_true hat] at hlook
          have HS2 : Hid (varsF l [] = varsF (l.drop (k + 1)) o) := by
            have := HSt.out
            rw [if_neg fun h => h2 h.1] at this
            exact Lib.hid (HV.out.trans this)
          clear h2 hat HSt
          go_wp2_with fail
          go_roundw
          case rel => exact ⟨k + 1, o, by omega, by omega, by go_num, HS2, HO3, HS3, HQ3, HZ3⟩
          case measure => simp [intOf]; omega
      · rw [decide_eq_false hat] at hlook
        have HS2 : Hid (varsF l [] = varsF (l.drop (k + 1)) o) := by
          have := HSt.out
          rw [if_neg fun h => hat h.2] at this
          exact Lib.hid (HV.out.trans this)
        clear hat HSt
        go_wp2_with fail
        go_roundw
        case rel => exact ⟨k + 1, o, by omega, by omega, by go_num, HS2, HO3, HS3, HQ3, HZ3⟩
        case measure => simp [intOf]; omega
    · have HVe : Hid (varsF l [] = o) := by
        have := HV.out
        rw [varsF_end l o k (by omega)] at this
        exact Lib.hid this
      have HRo := Lib.hid hro
      clear hro HV HO HS
      go_wp2_with fail
      go_ret
      exact ⟨A2, c2', by rw [HVe.out]; rfl, by rw [HVe.out]; exact HRo.out, HQ.out⟩
end Go.Proofs.Ytmohedkhbjeapaa.Ex
