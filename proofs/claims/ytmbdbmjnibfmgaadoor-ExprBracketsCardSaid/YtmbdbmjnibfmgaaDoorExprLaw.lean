/-
  What the laws of layer 7 want: how many tokens a text has; contracts at a right row.
-/
import Derived.Test.YtmbdbmjnibfmgaaDoorExprW
import Derived.Test.YtmbdbmjnibfmgaaDoorExprZT
import Derived.Test.YtmbdbmjnibfmgaaDoorRef7R
namespace Go.Proofs.YtmbdbmjnibfmgaaDoor.Ex
open Go.RowKit Kit Rw
open Go.Proofs.YtmbdbmjnibfmgaaDoor.Nm

open Lx in
/-- a text has no more tokens than bytes -/
theorem lx_few : ∀ (n : Nat) (l : List UInt8) (p : Nat), l.length ≤ n → (lx l p).1.length ≤ l.length
  | 0, [], p, _ => by simp [lx_nil]
  | 0, _ :: _, _, h => by simp at h
  | n + 1, [], p, _ => by simp [lx_nil]
  | n + 1, c :: r, p, hl => by
    have hl : r.length ≤ n := by simpa using hl
    cases hb : Lx.blank c
    · cases ht : Lx.tk c r with
      | none => rw [lx_none hb ht]; simp
      | some km =>
        obtain ⟨k, m⟩ := km
        rw [lx_some hb ht]
        have := lx_few n (r.drop m) (p + m + 1) (by simp; omega)
        simp at this ⊢
        omega
    · rw [lx_blank hb]
      have := lx_few n r (p + 1) hl
      simp; omega
theorem toks_few {s : List UInt8} {ts : List TT} (h : Lx1 s ts) : ts.length ≤ s.length := by
  obtain ⟨l, h1, h2⟩ := h.all
  have h9 := lx_few s.length s 0 (Nat.le_refl _)
  rw [h1] at h9
  rw [← h2, List.length_map]
  exact h9
def ToksAt (ts : List TT) (w : World) (e : Ending) (w' : World) : Prop :=
  ∃ A c toks, e = .returned (.tuple #[.slice A toks.length c, .int .i64 0, .int .i64 0]) ∧ Rds w' w'.heap.size A (cellsG toks) ∧ At toks 0 ts ∧ toks.length = ts.length ∧ Q w w'
theorem toks_of {s : List UInt8} {ts : List TT} (h : Lx1 s ts) (hs : s.length ≤ 2000) (w : World) : Calls Tryd.prog 10 #[.string ⟨s.toArray⟩] w (ToksAt ts w) :=
  toks_at (s := ⟨s.toArray⟩) (by simpa using h) (by simpa [ByteArray.size] using hs) w
/-- all that a right row's tree is -/
structure RightX (l : List Tg) (x : Ex) : Prop where
  may : ∀ t ∈ l, mayN t = true
  run : runS [] l = some [x]
  wf : x.wf
  nodes : x.nodes = l
  deep : x.deep ≤ 40
  pos : 0 < l.length
theorem right_x {l : List Tg} (h : rightB l = true) : ∃ x, RightX l x := by
  obtain ⟨hm, x, hs, hw, hnd, hd, _, hpos⟩ := right_tree h
  exact ⟨x, hm, hs, hw, hnd, hd, hpos⟩
theorem RightX.mayX {l : List Tg} {x : Ex} (h : RightX l x) : ∀ t ∈ x.nodes, mayN t = true := by rw [h.nodes]; exact h.may
theorem RightX.textLen {l : List Tg} {x : Ex} (h : RightX l x) (hf : total7 l ≤ 600) : x.text.length ≤ 1798 := by
  have := text_len x h.wf h.mayX
  rw [h.nodes] at this
  omega
theorem RightX.lx {l : List Tg} {x : Ex} (h : RightX l x) : Lx1 x.text x.toks := lx_tree x h.wf h.mayX
theorem RightX.text {l : List Tg} {x : Ex} (h : RightX l x) (hf : total7 l ≤ 600) (A : Option Addr) (c : Nat) (w : World) (hr : Rds w w.heap.size A (cellsG l)) :
    Calls Tryd.prog 11 #[.slice A l.length c] w fun e w' => e = .returned (.string ⟨x.text.toArray⟩) ∧ Q w w' :=
  text_any A l.length c l x w rfl hr (Nat.le_trans (total7_ge l) hf) h.may h.run (by have := h.textLen hf; omega)
theorem RightX.read {l : List Tg} {x : Ex} (h : RightX l x) (hf : total7 l ≤ 600) (A : Option Addr) (c : Nat) (toks : List Tg) (w : World) (hr : Rds w w.heap.size A (cellsG toks)) (ha : At toks 0 x.toks) (hl : toks.length = x.toks.length) :
    Calls Tryd.prog 12 #[.slice A toks.length c, .int .i64 0] w (ReadPost w 0 toks.length l) := by
  have h1 := toks_few h.lx
  have h2 := h.textLen hf
  have h3 := (read_whole h.wf h.mayX ha hl).resolve_left (fun hh => by have := h.deep; omega)
  rw [h.nodes] at h3
  exact read_any A toks.length c toks w 0 toks.length l rfl hr (by omega) h3
theorem same_self (A A' : Option Addr) (c c' : Nat) (l : List Tg) (w : World) (hr : Rds w w.heap.size A (cellsG l)) (hr' : Rds w w.heap.size A' (cellsG l)) (hl : l.length ≤ 1000000) :
    Calls Tryd.prog 13 #[.slice A l.length c, .slice A' l.length c'] w fun e w' => e = .returned (.bool true) ∧ Q w w' := by
  have h := same7_any A A' l.length c l.length c' l l w rfl rfl hr hr' hl
  rw [(sameB_iff l l).2 rfl] at h
  refine h.mono ?_
  rintro e w' ⟨rfl, n, rfl⟩
  exact ⟨rfl, (Q.refl w).drewN n⟩
end Go.Proofs.YtmbdbmjnibfmgaaDoor.Ex
