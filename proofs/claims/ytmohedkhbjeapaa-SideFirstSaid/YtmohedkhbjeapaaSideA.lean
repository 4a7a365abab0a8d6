/-
  Contract of the document's example of layer 8.
-/
import Derived.Test.YtmohedkhbjeapaaSideP
import Derived.Laws.IdiomStrings
namespace Go.Proofs.Ytmohedkhbjeapaa.Ex
open Go.RowKit Kit Rw
open Go.Proofs.Ytmohedkhbjeapaa.Sg (Sig Row findI)

theorem row_lit (w : World) (a b : ByteArray) (t : TypeId) : Row (w.alloc (.cells #[.string a, .string b] t)) (w.alloc (.cells #[.string a, .string b] t)).heap.size (some ⟨w.heap.size, 0, none⟩) [(a, b)] := fun _ => by
  have hO := own_new8 w [.string a, .string b] t
  refine ⟨_, rfl, hO.1, fun i s hs => ?_⟩
  match i, hs with
  | 0, hs =>
    obtain rfl : (a, b) = s := by simpa using hs
    exact ⟨(hO.2 0 _ rfl).1, (hO.2 1 _ rfl).1⟩
  | i + 1, hs => simp at hs
def exL : List Sig := [(⟨#[99]⟩, ⟨#[45]⟩)]
def exN : List Tg := [(2, ⟨#[88]⟩, 0), (3, ⟨#[99]⟩, 1)]
def exE : Ex := .mk (3, ⟨#[99]⟩, 1) [.mk (2, ⟨#[88]⟩, 0) []]
theorem ex_find : findI (⟨#[99]⟩ : ByteArray) exL 0 = ((0 : Nat) : Int) := by
  show (if Sg.eqS ⟨#[99]⟩ ⟨#[99]⟩ = true then ((0 : Nat) : Int) else _) = _
  rw [if_pos ((Sg.eqS_iff _ _).2 rfl)]
theorem ex_known : knownB exL (3, ⟨#[99]⟩, 1) = true := by
  rw [(known_at (L := exL) (n := (3, ⟨#[99]⟩, 1)) (j := 0) (by decide) ex_find).1]
  rfl
theorem ex_vary : varyB exL (3, ⟨#[99]⟩, 1) 0 = 45 := by
  unfold varyB
  rw [if_neg (by decide), ex_known, if_neg (by decide), if_neg (by decide), (known_at (L := exL) (n := (3, ⟨#[99]⟩, 1)) (j := 0) (by decide) ex_find).2]
  rfl
theorem ex_run : runS [] exN = some [exE] := by rfl
theorem ex_sides : exE.sides exL (side0 76) = [82, 76] := by
  show ([turnB 76 (varyB exL (3, ⟨#[99]⟩, 1) 0)] ++ []) ++ [76] = _
  rw [ex_vary]
  rfl
theorem ex_bad : badN exL (3, ⟨#[99]⟩, 1) 76 = 0 := by
  unfold badN
  rw [ex_find, ex_known]
  rfl
theorem ex_check : checkF exL exN [82, 76] 0 = (0, 0) := by
  unfold exN checkF
  rw [if_pos (bad_leaf (.inr (.inr rfl)) _)]
  unfold checkF
  rw [if_pos ex_bad]
  rfl
theorem ex_vars : varsF exN [] = [⟨#[88]⟩] := by rfl
theorem ex_may : ∀ t ∈ exN, mayN t = true := by
  intro t ht
  simp only [exN, List.mem_cons, List.not_mem_nil, or_false] at ht
  rcases ht with rfl | rfl
  all_goals first | decide | (unfold mayN; rw [ByteArray.toList_eq]; rfl)
theorem conv8 {w : World} {A : Option Addr} {c : Nat} {F : List UInt8} (h : Rds w w.heap.size A (cells8 F)) (hF : 0 < F.length) : (convert 31 9 (.slice A F.length c)).run Try.prog w = .ok (.string ⟨F.toArray⟩) w := by
  obtain ⟨ad, rfl, _, hc⟩ := h (by rw [cells8_len]; exact hF)
  exact run_convert_bytes_back (P := Try.prog) _ 31 9 5 ad c F Try.underlying31 Try.underlying5 Try.underlying9 (fun j hj => hc j _ (cells8_at (List.getElem?_eq_getElem hj)))
set_option maxRecDepth 100000 in
set_option maxHeartbeats 4000000 in
theorem shown8_any (w : World) : Calls Try.prog 10 #[] w fun e w' => e = .returned (.bool true) ∧ Q w w' := by
  have q0 := (Q.refl w).alloc (Obj.cells #[.string ⟨#[99]⟩, .string ⟨#[45]⟩] 52)
  have q1 := (Q.refl (w.alloc (Obj.cells #[.string ⟨#[99]⟩, .string ⟨#[45]⟩] 52))).alloc (Obj.cells #[.int .i64 2, .string ⟨#[88]⟩, .int .i64 0, .int .i64 3, .string ⟨#[99]⟩, .int .i64 1] 38)
  have HQ0 := Lib.hid (q0.trans q1)
  have hL := row_lit w ⟨#[99]⟩ ⟨#[45]⟩ 52
  have HL := Lib.hid ((hL.q (Nat.le_refl _) q1).more q1.size)
  have HR : Hid (Rds ((w.alloc (Obj.cells #[.string ⟨#[99]⟩, .string ⟨#[45]⟩] 52)).alloc (Obj.cells #[.int .i64 2, .string ⟨#[88]⟩, .int .i64 0, .int .i64 3, .string ⟨#[99]⟩, .int .i64 1] 38)) (((w.alloc (Obj.cells #[.string ⟨#[99]⟩, .string ⟨#[45]⟩] 52)).alloc (Obj.cells #[.int .i64 2, .string ⟨#[88]⟩, .int .i64 0, .int .i64 3, .string ⟨#[99]⟩, .int .i64 1] 38))).heap.size (some ⟨w.heap.size + 1, 0, none⟩) (cellsG exN)) := by
    have := (own_new8 (w.alloc (Obj.cells #[.string ⟨#[99]⟩, .string ⟨#[45]⟩] 52)) (cellsG exN) 38).rds
    have e : (w.alloc (Obj.cells #[.string ⟨#[99]⟩, .string ⟨#[45]⟩] 52)).heap.size = w.heap.size + 1 := by simp
    rw [e] at this
    exact this
  clear q0 q1 hL
  go_enter Try.func10, Try.ntmps10
  go_wp2_with fail
  generalize (w.alloc (Obj.cells #[.string ⟨#[99]⟩, .string ⟨#[45]⟩] 52)).alloc (Obj.cells #[.int .i64 2, .string ⟨#[88]⟩, .int .i64 0, .int .i64 3, .string ⟨#[99]⟩, .int .i64 1] 38) = W at *
  have CC := sideCheck_any (some ⟨w.heap.size, 0, none⟩) (some ⟨w.heap.size + 1, 0, none⟩) 1 1 2 2 exL exN exE 76 W rfl rfl HL.out HR.out (by decide) (by decide) ex_may ex_run
  rw [ex_sides, ex_check] at CC
  have CC2 : Hid (Calls Try.prog 12 #[.slice (some ⟨w.heap.size, 0, none⟩) 1 1, .slice (some ⟨w.heap.size + 1, 0, none⟩) 2 2, .int .u8 76] W fun e w' => e = .returned (.tuple #[.int .i64 0, .int .i64 0]) ∧ Q W w') := CC
  clear CC
  have CO : Hid (∀ V : World, Q W V → Calls Try.prog 14 #[.slice (some ⟨w.heap.size, 0, none⟩) 1 1, .slice (some ⟨w.heap.size + 1, 0, none⟩) 2 2, .int .u8 76] V (SideOf [82, 76] V)) := fun V q => by
    have := sideOf_any (some ⟨w.heap.size, 0, none⟩) (some ⟨w.heap.size + 1, 0, none⟩) 1 1 2 2 exL exN exE 76 V rfl rfl ((HL.out.q (Nat.le_refl _) q).more q.size) (HR.out.q q) (by decide) (by decide) ex_may ex_run
    rw [ex_sides] at this
    exact this
  have CV : Hid (∀ V : World, Q W V → Calls Try.prog 17 #[.slice (some ⟨w.heap.size + 1, 0, none⟩) 2 2] V (SideVars [⟨#[88]⟩] V)) := fun V q => by
    have := sideVars_any (some ⟨w.heap.size + 1, 0, none⟩) 2 2 exN V rfl (HR.out.q q) (by decide) ex_may
    rw [ex_vars] at this
    exact this
  clear HL HR
  go_wp2_with (first
    | (go_at_call 12; refine CC2.out.mono ?_; rintro e w1 ⟨rfl, q1⟩; have HQ1 := Lib.hid q1; clear q1)
    | (go_at_call 14; refine (CO.out _ HQ1.out).mono ?_; rintro e w2 ⟨A2, c2, rfl, hr2, q2⟩; have HQ2 := Lib.hid (HQ1.out.trans q2); have hcv : (convert 31 9 (.slice A2 2 c2)).run Try.prog w2 = .ok (.string ⟨#[82, 76]⟩) w2 := conv8 hr2 (by decide); clear hr2 q2)
    | (go_at_call 17; refine (CV.out _ HQ2.out).mono ?_; rintro e w3 ⟨A3, c3, rfl, hr3, q3⟩; have HQ3 := Lib.hid (HQ2.out.trans q3); clear hr3 q3))
  go_ret
  exact ⟨rfl, HQ0.out.trans HQ3.out⟩
end Go.Proofs.Ytmohedkhbjeapaa.Ex
