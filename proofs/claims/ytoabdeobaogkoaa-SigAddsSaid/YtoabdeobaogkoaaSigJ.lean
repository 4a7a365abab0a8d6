/-
  Contract of the document's Add.
-/
import Derived.Test.YtoabdeobaogkoaaSigI
import Derived.Test.YtoabdeobaogkoaaKitRows
import Derived.Deep.RegionHeld3
namespace Go.Proofs.Ytoabdeobaogkoaa.Sg
open Go.RowKit Kit

def RefAddPost (l : List Sig) (nm ar : ByteArray) (w : World) (e : Ending) (w' : World) : Prop :=
  ∃ A m c, e = .returned (.tuple #[.slice A m c, .int .i64 (mayI l nm ar)]) ∧ m = (addL l nm ar).length ∧ Row w' w'.heap.size A (addL l nm ar) ∧ Q w w'

theorem close_ok (w W w2 : World) (v2 : Value) (l : List Sig) (nm ar : ByteArray) (q0 : Q w W) (own : w2.ownsRow W.heap.size 24 2 v2 (0 + l.length + 1) ([] ++ cellsOf l ++ [.string nm, .string ar])) (b2 : Below W.heap.size W w2)
    (hmay : mayI l nm ar = 0) : RefAddPost l nm ar w (.returned (.tuple #[v2, .int .i64 0])) w2 := by
  obtain ⟨g, cap, rfl, _⟩ := own.form (by omega)
  have e : addL l nm ar = l ++ [(nm, ar)] := by unfold addL; rw [if_pos hmay]
  have ec : [] ++ cellsOf l ++ [Value.string nm, Value.string ar] = cellsOf (l ++ [(nm, ar)]) := by rw [cellsOf_append]; rfl
  rw [ec] at own
  exact ⟨_, _, _, by rw [hmay], by rw [e]; simp, by rw [e]; exact Row.of_own own, q0.trans b2⟩
theorem close_no (A : Option Addr) (n c : Nat) (w W : World) (l : List Sig) (nm ar : ByteArray) (k : Int) (q0 : Q w W) (hr : Row W W.heap.size A l) (hn : n = l.length) (hmay : mayI l nm ar = k) (hk : k ≠ 0) :
    RefAddPost l nm ar w (.returned (.tuple #[.slice A n c, .int .i64 k])) W := by
  have e : addL l nm ar = l := by unfold addL; rw [if_neg (by omega)]
  exact ⟨_, _, _, by rw [hmay], by rw [e]; exact hn, by rw [e]; exact hr, q0⟩

set_option maxHeartbeats 400000 in
theorem refAdd_ok (A : Option Addr) (c : Nat) (l : List Sig) (nm ar : ByteArray) (w : World) (hr : Row w w.heap.size A l) (hl : l.length ≤ 200) (ha : ar.size ≤ maxLen)
    (h1 : nameB 97 122 nm.data.toList = true) (h2 : argsB ar.data.toList = true) (h3 : findI nm l 0 < 0) (h4 : l.length < 64) :
    Calls Try.prog 12 #[.slice A l.length c, .agg #[.string nm, .string ar]] w (RefAddPost l nm ar w) := by
  have hmay : Hid (mayI l nm ar = 0) := by unfold Hid mayI conB partsB; rw [h1, h2, decide_eq_false (by omega), decide_eq_false (by omega)]; rfl
  have q0 := (Q.refl w).alloc (Obj.cells #[Value.string nm, Value.string ar] 24)
  have hr0 := Lib.hid ((hr.q (Nat.le_refl _) q0).more q0.size)
  clear hr
  go_enter Try.func12, Try.ntmps12
  go_wp2_with fail
  refine (con_any _ _).mono ?_
  rintro e w1 ⟨rfl, rfl⟩
  go_wp2_with fail
  refine (args_any _ _ ha).mono ?_
  rintro e w1 ⟨rfl, rfl⟩
  go_wp2_with fail
  refine (refFind_any _ _ _ l _ _ rfl hr0.out (by unfold maxLen; omega)).mono ?_
  rintro e w1 ⟨rfl, rfl⟩
  go_wp2_with fail
  have k0 : (w.alloc (Obj.cells #[Value.string nm, Value.string ar] 24)).cell? ⟨w.heap.size, 0, none⟩ = some (.string nm) := by simp
  have k1 : (w.alloc (Obj.cells #[Value.string nm, Value.string ar] 24)).cell? ⟨w.heap.size, 1, none⟩ = some (.string ar) := by simp
  have hlt : w.heap.size < (w.alloc (Obj.cells #[Value.string nm, Value.string ar] 24)).heap.size := by simp
  generalize w.alloc (Obj.cells #[Value.string nm, Value.string ar] 24) = W at *
  have hsrc : Hid (∀ W' : World, Below W.heap.size W W' → Src W' A (cellsOf l)) := fun W' hb h0 => (hr0.out.keep hb).cells h0
  obtain ⟨i0, hi, hz0, hz1, hz2⟩ := info_parts sigInfo
  have Hi := Lib.hid hi
  have Hz0 := Lib.hid hz0
  have Hz1 := Lib.hid hz1
  have Hz2 := Lib.hid hz2
  clear hi hz0 hz1 hz2
  go_region_law (first
    | (refine step_append_src _ rfl (.tmp 30) (.tmp 31) _ rfl W.heap.size 24 i0 _ 2 32 Try.underlying22 Hi.out Hz0.out Hz1.out Hz2.out rfl (by omega) (.slice (some ⟨W.heap.size, 0, none⟩) 0 0) 0 [] rfl (own_empty (by omega) (heap_alloc_new W _)) A l.length c (cellsOf l) rfl (cellsOf_length l) (hsrc.out _ (by go_grown)) (cellsOf_one l) (by unfold maxLen; omega) (by omega) (by simp; try omega) ?_; intro v1 w1 own1 gr1 at1; have b1 : Below W.heap.size W w1 := Below.grown (by go_grown) gr1 (by simp; try omega) (by simp [Value.ownBlock]); have k0' := (b1.cell (p := ⟨w.heap.size, 0, none⟩) hlt).trans k0; have k1' := (b1.cell (p := ⟨w.heap.size, 1, none⟩) hlt).trans k1)
    | (refine step_append_src _ rfl (.tmp 30) (.tmp 31) _ rfl W.heap.size 24 i0 _ 2 32 Try.underlying22 Hi.out Hz0.out Hz1.out Hz2.out rfl (by omega) (.slice (some ⟨W.heap.size, 0, none⟩) 0 0) 0 [] rfl (own_empty (by omega) (heap_two_old W _ _)) A l.length c (cellsOf l) rfl (cellsOf_length l) (hsrc.out _ (by go_grown)) (cellsOf_one l) (by unfold maxLen; omega) (by omega) (by simp; try omega) ?_; intro v1 w1 own1 gr1 at1; have b1 : Below W.heap.size W w1 := Below.grown (by go_grown) gr1 (by simp; try omega) (by simp [Value.ownBlock]); have k0' := (b1.cell (p := ⟨w.heap.size, 0, none⟩) hlt).trans k0; have k1' := (b1.cell (p := ⟨w.heap.size, 1, none⟩) hlt).trans k1)
    | (refine step_append_src _ rfl (.tmp 30) (.tmp 31) _ rfl W.heap.size 24 i0 _ 2 32 Try.underlying22 Hi.out Hz0.out Hz1.out Hz2.out rfl (by omega) (.slice (some ⟨W.heap.size + 1, 0, none⟩) 0 0) 0 [] rfl (own_empty (by omega) (heap_two_new W _ _)) A l.length c (cellsOf l) rfl (cellsOf_length l) (hsrc.out _ (by go_grown)) (cellsOf_one l) (by unfold maxLen; omega) (by omega) (by simp; try omega) ?_; intro v1 w1 own1 gr1 at1; have b1 : Below W.heap.size W w1 := Below.grown (by go_grown) gr1 (by simp; try omega) (by simp [Value.ownBlock]); have k0' := (b1.cell (p := ⟨w.heap.size, 0, none⟩) hlt).trans k0; have k1' := (b1.cell (p := ⟨w.heap.size, 1, none⟩) hlt).trans k1)
    | (refine step_append_src _ rfl (.tmp 32) (.tmp 34) _ rfl W.heap.size 24 i0 _ 2 32 Try.underlying22 Hi.out Hz0.out Hz1.out Hz2.out rfl (by omega) v1 (0 + l.length) ([] ++ cellsOf l) rfl (own1.alloc _) (some ⟨w1.heap.size, 0, none⟩) 1 1 [.string nm, .string ar] rfl rfl (src_block (cs := #[.string nm, .string ar]) (t := 24) (fr := (0, 0)) (heap_alloc_new w1 _)) (by simp [Value.oneCell']) (by unfold maxLen; omega) (by omega) (by have := b1.size; simp; omega) ?_; intro v2 w2 own2 gr2 at2)
    | (refine step_append_src _ rfl (.tmp 32) (.tmp 34) _ rfl W.heap.size 24 i0 _ 2 32 Try.underlying22 Hi.out Hz0.out Hz1.out Hz2.out rfl (by omega) v1 (0 + l.length) ([] ++ cellsOf l) rfl own1 (some ⟨W.heap.size + 1, 0, none⟩) 1 1 [.string nm, .string ar] rfl rfl (src_block (cs := #[.string nm, .string ar]) (t := 24) (fr := (0, 0)) ((gr1.block (W.heap.size + 1) (by simp) (by simp [Value.ownBlock])).trans (heap_two_new W _ _))) (by simp [Value.oneCell']) (by unfold maxLen; omega) (by omega) (by have := b1.size; simp; omega) ?_; intro v2 w2 own2 gr2 at2)
    | (refine step_append_src _ rfl (.tmp 32) (.tmp 34) _ rfl W.heap.size 24 i0 _ 2 32 Try.underlying22 Hi.out Hz0.out Hz1.out Hz2.out rfl (by omega) v1 (0 + l.length) ([] ++ cellsOf l) rfl own1 (some ⟨W.heap.size, 0, none⟩) 1 1 [.string nm, .string ar] rfl rfl (src_block (cs := #[.string nm, .string ar]) (t := 24) (fr := (0, 0)) ((gr1.block W.heap.size (by simp; omega) (by simp [Value.ownBlock])).trans (heap_two_old W _ _))) (by simp [Value.oneCell']) (by unfold maxLen; omega) (by omega) (by have := b1.size; simp; omega) ?_; intro v2 w2 own2 gr2 at2))
  all_goals
    have b2 : Below W.heap.size W w2 := by
      first
        | exact b1.grown gr2 b1.size (fun k hk => (own1.lt k hk).1)
        | exact (b1.alloc b1.size _).grown gr2 (by have := b1.size; simp; omega) (fun k hk => (own1.lt k hk).1)
    have own2' := Lib.hid own2
    have b2' := Lib.hid b2
    clear own1 own2 gr1 gr2 at1 at2 b1 b2 k0' k1' k0 k1
    go_wp2_with fail
    go_ret2
    exact close_ok w W w2 v2 l nm ar q0 own2'.out b2'.out hmay.out
/-- whatever the row, whatever the constructor -/
theorem refAdd_any (A : Option Addr) (n c : Nat) (l : List Sig) (nm ar : ByteArray) (w : World) (hn : n = l.length) (hr : Row w w.heap.size A l) (hl : l.length ≤ 200) (ha : ar.size ≤ maxLen) :
    Calls Try.prog 12 #[.slice A n c, .agg #[.string nm, .string ar]] w (RefAddPost l nm ar w) := by
  subst hn
  have q0 := (Q.refl w).alloc (Obj.cells #[Value.string nm, Value.string ar] 24)
  have hr0 := Lib.hid ((hr.q (Nat.le_refl _) q0).more q0.size)
  have hrq := Lib.hid (hr.q (Nat.le_refl _) q0)
  cases h1 : nameB 97 122 nm.data.toList
  · have hm : mayI l nm ar = 3 := by unfold mayI conB; rw [h1]; rfl
    have HF := Lib.hid (close_no A l.length c w _ l nm ar 3 q0 hr0.out rfl hm (by omega))
    clear hr hm
    go_enter Try.func12, Try.ntmps12
    go_wp2_with fail
    refine (con_any _ _).mono ?_
    rintro e w1 ⟨rfl, rfl⟩
    go_wp2_with fail
    go_ret2
    exact HF.out
  · cases h2 : argsB ar.data.toList
    · have hm : mayI l nm ar = 1 := by unfold mayI conB partsB; rw [h1, h2]; rfl
      have HF := Lib.hid (close_no A l.length c w _ l nm ar 1 q0 hr0.out rfl hm (by omega))
      clear hr hm
      go_enter Try.func12, Try.ntmps12
      go_wp2_with fail
      refine (con_any _ _).mono ?_
      rintro e w1 ⟨rfl, rfl⟩
      go_wp2_with fail
      refine (args_any _ _ ha).mono ?_
      rintro e w1 ⟨rfl, rfl⟩
      go_wp2_with fail
      go_ret2
      exact HF.out
    · by_cases h3 : 0 ≤ findI nm l 0
      · have hm : mayI l nm ar = 4 := by unfold mayI conB partsB; rw [h1, h2, decide_eq_true h3]; rfl
        have HF := Lib.hid (close_no A l.length c w _ l nm ar 4 q0 hr0.out rfl hm (by omega))
        clear hr hm
        go_enter Try.func12, Try.ntmps12
        go_wp2_with fail
        refine (con_any _ _).mono ?_
        rintro e w1 ⟨rfl, rfl⟩
        go_wp2_with fail
        refine (args_any _ _ ha).mono ?_
        rintro e w1 ⟨rfl, rfl⟩
        go_wp2_with fail
        refine (refFind_any _ _ _ l _ _ rfl hr0.out (by unfold maxLen; omega)).mono ?_
        rintro e w1 ⟨rfl, rfl⟩
        go_wp2_with fail
        go_ret2
        exact HF.out
      · by_cases h4 : 64 ≤ l.length
        · have hm : mayI l nm ar = 7 := by unfold mayI conB partsB; rw [h1, h2, decide_eq_false h3, decide_eq_true h4]; rfl
          have HF := Lib.hid (close_no A l.length c w _ l nm ar 7 q0 hr0.out rfl hm (by omega))
          have h4' : 64 ≤ (l.length : Int) := by omega
          clear hr hm
          go_enter Try.func12, Try.ntmps12
          go_wp2_with fail
          refine (con_any _ _).mono ?_
          rintro e w1 ⟨rfl, rfl⟩
          go_wp2_with fail
          refine (args_any _ _ ha).mono ?_
          rintro e w1 ⟨rfl, rfl⟩
          go_wp2_with fail
          refine (refFind_any _ _ _ l _ _ rfl hr0.out (by unfold maxLen; omega)).mono ?_
          rintro e w1 ⟨rfl, rfl⟩
          go_wp2_with fail
          go_ret2
          exact HF.out
        · exact refAdd_ok A c l nm ar w hr hl ha h1 h2 (by omega) (by omega)
end Go.Proofs.Ytoabdeobaogkoaa.Sg
