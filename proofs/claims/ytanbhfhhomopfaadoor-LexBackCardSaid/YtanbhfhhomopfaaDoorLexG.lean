/-
  Contracts: Text, the program's and the document's; Few.
-/
import Derived.Test.YtanbhfhhomopfaaDoorLexF
import Derived.Deep.RegionHeld
namespace Go.Proofs.YtanbhfhhomopfaaDoor.Lx
open Go.RowKit Kit Rw

theorem strInfo : (Tryd.prog.info? 9).map (fun i => (i.zero, i.size, i.bytes)) = some (some (.string ⟨#[]⟩), 1, 16) := by kernel_rfl
def cellsS (l : List ByteArray) : List Value := l.map Value.string
theorem cellsS_len (l : List ByteArray) : (cellsS l).length = l.length := by simp [cellsS]
theorem cellsS_at {l : List ByteArray} {k : Nat} (h : k < l.length) : (cellsS l)[k]? = some (.string l[k]) := by simp [cellsS, h]
theorem cellsS_set (l : List ByteArray) (k : Nat) (x : ByteArray) : cellsS (l.set k x) = (cellsS l).set k (.string x) := by simp [cellsS]
theorem own_strs (w : World) (n : Nat) (t : TypeId) : OwnC (w.alloc (.cells (madeCells #[.string ⟨#[]⟩] n) t)) w.heap.size (cellsS (List.replicate n ⟨#[]⟩)) := by
  refine ⟨by simp, fun i x hx => ?_⟩
  have hi : i < n := by have := (List.getElem?_eq_some_iff.1 hx).1; simpa [cellsS] using this
  have e : x = .string ⟨#[]⟩ := by rw [cellsS, List.map_replicate, List.getElem?_replicate, if_pos hi] at hx; simpa using hx.symm
  subst e
  refine ⟨?_, World.frozen?_alloc_at _ _ _ _ rfl⟩
  rw [cell_of_row _ _ _ _ _ _ (heap_alloc_new w _)]
  simp [madeCells, hi, Nat.mod_one]
theorem make_strs (n : Nat) (hn : n ≤ 100000000) (u : World) : (Instr.makeSlice 54 (.int .i64 (n : Int)) (.int .i64 (n : Int))).run Tryd.prog u = .ok (.slice (some ⟨u.heap.size, 0, none⟩) n n) (u.alloc (.cells (madeCells #[.string ⟨#[]⟩] n) 9)) := by
  obtain ⟨i0, hi, hz0, hz1, hz2⟩ := info_parts strInfo
  have h := run_make (P := Tryd.prog) u 54 9 i0 _ Tryd.underlying54 hi hz0 .i64 .i64 (n : Int) (n : Int) (by omega) (by omega) (by rw [hz2]; omega) (by omega)
  rw [hz1, Nat.mul_one] at h
  exact h
/-- the texts of tokens, one blank between each two -/
def joinT (l : List Tg) : List UInt8 := Lib.join (l.map fun t => t.2.1.data.toList) [32]

set_option maxRecDepth 100000 in
set_option maxHeartbeats 1000000 in
theorem text_any (A : Option Addr) (n c : Nat) (l : List Tg) (w : World) (hn : n = l.length) (hr : Rds w w.heap.size A (cellsG l)) (hl : l.length ≤ 1000000) (hj : (joinT l).length ≤ 1000000) :
    Calls Tryd.prog 17 #[.slice A n c] w fun e w' => e = .returned (.string (bs (joinT l))) ∧ Q w w' := by
  subst hn
  have HR := Lib.hid hr
  have hmk := make_strs l.length (by omega)
  have HJ := Lib.hid hj
  clear hr hj
  go_enter Tryd.func17, Tryd.ntmps17
  go_wp2_with fail
  have HO := Lib.hid (own_strs w l.length 9)
  have HQ := Lib.hid ((Q.refl w).alloc (Obj.cells (madeCells #[Value.string ⟨#[]⟩] l.length) 9))
  clear hmk
  generalize w.alloc (Obj.cells (madeCells #[Value.string ⟨#[]⟩] l.length) 9) = W1 at *
  obtain ⟨g, hg⟩ : ∃ g, g = w.heap.size := ⟨_, rfl⟩
  rw [← hg] at HO ⊢
  have HG := Lib.hid hg
  clear hg
  go_loopw [11] (fun i wr => ∃ (k : Nat) (F : List ByteArray), k ≤ l.length ∧ i = .int .i64 k ∧ F.length = l.length ∧ Hid (∀ n (h : n < l.length), n < k → F[n]? = some (l[n].2.1)) ∧ Hid (OwnC wr g (cellsS F)) ∧ Hid (Q w wr)) (fun i _ => l.length - (intOf i).toNat)
  case atStart => exact ⟨0, _, Nat.zero_le _, rfl, by simp, Lib.hid (fun n _ hn => absurd hn (by omega)), HO, HQ⟩
  case round =>
    clear HO HQ
    obtain ⟨k, F, hk, rfl, hF, HH, HO, HQ⟩ := hrel
    by_cases hlt : k < l.length
    · obtain ⟨ad, rfl, hb, c0, c1, c2⟩ := tok_at (HR.out.q HQ.out) hlt
      have hc := HO.out.2 k _ (cellsS_at (show k < F.length by omega))
      have hc1 := hc.1
      have hc2 := hc.2
      have HS := Lib.hid (HO.out.set (s := k) (by rw [cellsS_len]; omega) (.string l[k].2.1))
      rw [← cellsS_set] at HS
      have HQ2 : Hid (Q w (wr.setCell ⟨g, k, none⟩ (.string l[k].2.1))) := grown_q (setCell_grown _ _ _ _) HQ.out (by rw [HG.out]; exact Nat.le_refl _)
      have hkF : k < F.length := by omega
      have hgs : g < wr.heap.size := HO.out.1
      clear hc
      go_wp2_with fail
      go_roundw
      case rel => exact ⟨k + 1, F.set k l[k].2.1, by omega, by go_num, by rw [List.length_set]; exact hF, Lib.hid (fun n hn' hn => by
        by_cases e : k = n
        · subst e; exact List.getElem?_set_self hkF
        · rw [List.getElem?_set_ne e]; exact HH.out n hn' (by omega)), Lib.hid (HS.out.q ((Q.refl _).alloc _)), Lib.hid (HQ2.out.alloc _)⟩
      case measure => simp [intOf]; omega
    · have hFV : F = l.map (·.2.1) := List.ext_getElem? fun n => by
        by_cases e : n < l.length
        · rw [HH.out n e (by omega), List.getElem?_map, List.getElem?_eq_getElem e]; rfl
        · rw [List.getElem?_eq_none (by omega), List.getElem?_eq_none (by simp; omega)]
      have C : Hid (Calls Tryd.prog 25 #[.slice (some ⟨g, 0, none⟩) l.length l.length, .string ⟨#[32]⟩] wr fun e w' => e = .returned (.string (bs (joinT l))) ∧ Q wr w') := by
        have hjj : (Lib.join (F.map (·.data.toList)) [32]).length ≤ 1000000 := by
          have := HJ.out
          unfold joinT at this
          rw [hFV, List.map_map]
          exact this
        have hlen : F.length = l.length := hF
        have := Tryd.strings_Join g 0 l.length F ⟨#[32]⟩ wr (fun j x hx => by
          have hj := (List.getElem?_eq_some_iff.1 hx).1
          have := (HO.out.2 j _ (cellsS_at hj)).1
          rw [List.getElem?_eq_getElem hj] at hx
          injection hx with hx
          rw [← hx, Nat.zero_add]
          exact this) HO.out.1 (by omega) (by omega) (by show (Lib.join (F.map (·.data.toList)) [32]).length ≤ _; omega)
        rw [hlen] at this
        have e : bs (joinT l) = ⟨(Lib.join (F.map (·.data.toList)) [32]).toArray⟩ := by rw [hFV, List.map_map]; rfl
        rw [e]
        exact this
      clear hFV HH hF
      go_wp2_with (go_at_call 25; refine C.out.mono ?_; rintro e w2 ⟨rfl, q2⟩)
      go_ret
      exact ⟨rfl, HQ.out.trans q2⟩
end Go.Proofs.YtanbhfhhomopfaaDoor.Lx
