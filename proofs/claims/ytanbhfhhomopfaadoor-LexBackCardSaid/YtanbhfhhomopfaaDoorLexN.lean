/-
  Contract of the document's example.
-/
import Derived.Test.YtanbhfhhomopfaaDoorLexM
namespace Go.Proofs.YtanbhfhhomopfaaDoor.Lx
open Go.RowKit Kit Rw

/-- a text has no more tokens than bytes -/
theorem lx_few : ∀ (n : Nat) (l : List UInt8) (p : Nat), l.length ≤ n → (lx l p).1.length ≤ l.length
  | 0, [], p, _ => by simp [lx_nil]
  | 0, _ :: _, _, h => by simp at h
  | n + 1, [], p, _ => by simp [lx_nil]
  | n + 1, c :: r, p, hl => by
    have hl : r.length ≤ n := by simpa using hl
    cases hb : blank c
    · cases ht : tk c r with
      | none => rw [lx_none hb ht]; simp
      | some km =>
        obtain ⟨k, m⟩ := km
        rw [lx_some hb ht]
        have := lx_few n (r.drop m) (p + m + 1) (by simp; omega)
        simp at this ⊢
        omega
    · rw [lx_blank hb]
      have := lx_few n r (p + 1) hl
      simp; omega
def exL : List Tk := [⟨1, [88], 0⟩, ⟨3, [60, 61], 1⟩, ⟨1, [99], 3⟩]
theorem ex_lx : lx [88, 60, 61, 99] 0 = (exL, none) := by
  rw [lx_some (k := 1) (m := 0) (by decide) (by decide)]
  show (_ :: (lx [60, 61, 99] 1).1, (lx [60, 61, 99] 1).2) = _
  rw [lx_some (k := 3) (m := 1) (by decide) (by decide)]
  show (_ :: _ :: (lx [99] 3).1, (lx [99] 3).2) = _
  rw [lx_some (k := 1) (m := 0) (by decide) (by decide)]
  show (_ :: _ :: _ :: (lx [] 4).1, (lx [] 4).2) = _
  rw [lx_nil]
  rfl

set_option maxRecDepth 100000 in
set_option maxHeartbeats 2000000 in
theorem shown_any (w : World) : Calls Tryd.prog 10 #[] w fun e w' => e = .returned (.bool true) ∧ Q w w' := by
  have C1 := Lib.hid (toks_any ⟨#[88, 60, 61, 99]⟩ exL none w (by decide) ex_lx)
  have C2 : Hid (∀ W, Calls Tryd.prog 15 #[.string ⟨#[49, 48]⟩] W fun e W' => e = .returned (.tuple #[.int .i64 10, .bool true]) ∧ Q W W') := fun W => number_any ⟨#[49, 48]⟩ W (by decide)
  have hq : ∀ u : World, (binOp .eql 37 (.agg #[.int .i64 3, .string ⟨#[60, 61]⟩, .int .i64 1]) (.agg #[.int .i64 3, .string ⟨#[60, 61]⟩, .int .i64 1])).run Tryd.prog u = .ok (.bool true) u := fun u => by
    have := run_eql_tok u (3, ⟨#[60, 61]⟩, 1) (3, ⟨#[60, 61]⟩, 1)
    rw [(tgEq_iff _ _).2 rfl] at this
    exact this
  have hq2 := tok_guard
  go_enter Tryd.func10, Tryd.ntmps10
  go_wp2_with fail
  refine C1.out.mono ?_
  rintro e w1 ⟨A, c, rfl, hc, hR, q1⟩
  have hR0 := hR
  obtain ⟨ad, rfl, hb, y0, y1, y2⟩ := tok_at hR (k := 1) (by decide)
  obtain ⟨ad', e', _, z0, z1, z2⟩ := tok_at hR (k := 2) (by decide)
  injection e' with e'
  subst e'
  have HR := Lib.hid hR0
  clear hR hR0
  have hl : exL.length = 3 := rfl
  rw [hl] at hc ⊢
  go_wp2_with fail
  refine (C2.out _).mono ?_
  rintro e w2 ⟨rfl, q2⟩
  have a3 : ad.add (1 * 3) = ⟨ad.block, ad.off + 3, none⟩ := by simp [Addr.add]
  have a6 : ad.add (2 * 3) = ⟨ad.block, ad.off + 6, none⟩ := by simp [Addr.add]
  rw [a3] at y0 y1 y2
  rw [a6] at z2
  have Y0 : w2.cell? ⟨ad.block, ad.off + 3, none⟩ = some (.int .i64 3) := (q2.cell (p := ⟨ad.block, ad.off + 3, none⟩) hb).trans y0
  have Y1 : w2.cell? ⟨ad.block, ad.off + 3 + 1, none⟩ = some (.string ⟨#[60, 61]⟩) := (q2.cell (p := ⟨ad.block, ad.off + 3 + 1, none⟩) hb).trans y1
  have Y2 : w2.cell? ⟨ad.block, ad.off + 3 + 2, none⟩ = some (.int .i64 1) := (q2.cell (p := ⟨ad.block, ad.off + 3 + 2, none⟩) hb).trans y2
  have Z2 : w2.cell? ⟨ad.block, ad.off + 6 + 2, none⟩ = some (.int .i64 3) := (q2.cell (p := ⟨ad.block, ad.off + 6 + 2, none⟩) hb).trans z2
  have CT : Hid (Calls Tryd.prog 17 #[.slice (some ad) 3 c] w2 fun e w' => e = .returned (.string ⟨#[88, 32, 60, 61, 32, 99]⟩) ∧ Q w2 w') := text_any (some ad) 3 c (exL.map tg) w2 rfl (HR.out.q q2) (by decide) (by decide)
  clear y0 y1 y2 z0 z1 z2 a3 a6
  go_wp2_with (go_at_call 17; refine CT.out.mono ?_; rintro e w3 ⟨rfl, q3⟩)
  go_ret
  exact ⟨rfl, (q1.trans q2).trans q3⟩
end Go.Proofs.YtanbhfhhomopfaaDoor.Lx
