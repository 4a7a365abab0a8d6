/-
  Contract of the document's example: shown.
-/
import Derived.Test.YtmbdbmjnibfmgaaDoorExprV
import Derived.Test.YtmbdbmjnibfmgaaDoorExprQ
import Derived.Test.YtmbdbmjnibfmgaaDoorExprF
import Derived.Test.YtmbdbmjnibfmgaaDoorRef6G
namespace Go.Proofs.YtmbdbmjnibfmgaaDoor.Ex
open Go.RowKit Kit Rw
open Go.Proofs.YtmbdbmjnibfmgaaDoor.Nm

/-- what the document's Toks and the program's Read of a text come to -/
theorem toks_at {s : ByteArray} {ts : List TT} (h : Lx1 s.data.toList ts) (hs : s.size ≤ 2000) (w : World) :
    Calls Tryd.prog 10 #[.string s] w fun e w' => ∃ A c toks, e = .returned (.tuple #[.slice A toks.length c, .int .i64 0, .int .i64 0]) ∧ Rds w' w'.heap.size A (cellsG toks) ∧ At toks 0 ts ∧ toks.length = ts.length ∧ Q w w' := by
  obtain ⟨l, h1, h2⟩ := h.all
  refine (Lx.refToks_any s l none w hs h1).mono ?_
  rintro e w' ⟨A, c, rfl, hc, hR, q⟩
  refine ⟨A, c, l.map Lx.tg, by rw [List.length_map], hR, at_lx h2, lx_length h2, q⟩

def exE : Ex := .mk (3, ⟨#[99]⟩, 2) [.mk (4, ⟨#[]⟩, 2) [.mk (2, ⟨#[88]⟩, 0) [], .mk (0, ⟨#[]⟩, 0) []], .mk (6, ⟨#[100]⟩, 2) [.mk (2, ⟨#[89]⟩, 0) []]]
def exN : List Tg := [(2, ⟨#[88]⟩, 0), (0, ⟨#[]⟩, 0), (4, ⟨#[]⟩, 2), (2, ⟨#[89]⟩, 0), (6, ⟨#[100]⟩, 2), (3, ⟨#[99]⟩, 2)]
theorem ex_nodes : exE.nodes = exN := by rfl
theorem ex_text : exE.text = [99, 40, 88, 124, 48, 44, 100, 126, 50, 40, 89, 41, 41] := by rfl
theorem ex_wf : exE.wf := by simp [exE, Ex.wf, wfL]; decide
theorem ex_deep : exE.deep = 2 := by rfl
theorem ex_may : ∀ t ∈ exE.nodes, mayN t = true := by
  rw [ex_nodes]
  intro t ht
  simp only [exN, List.mem_cons, List.not_mem_nil, or_false] at ht
  rcases ht with rfl | rfl | rfl | rfl | rfl | rfl
  all_goals first | decide | (unfold mayN; rw [ByteArray.toList_eq]; rfl)
set_option maxRecDepth 100000 in
set_option maxHeartbeats 4000000 in
theorem shown_any (w : World) : Calls Tryd.prog 7 #[] w fun e w' => e = .returned (.bool true) ∧ Q w w' := by
  have hlx : Lx1 (⟨#[99, 40, 88, 124, 48, 44, 100, 126, 50, 40, 89, 41, 41]⟩ : ByteArray).data.toList exE.toks := by
    have := lx_tree exE ex_wf ex_may
    rw [ex_text] at this
    exact this
  have C1 := Lib.hid (toks_at hlx (by decide) w)
  have HRun := Lib.hid (fun (toks : List Tg) (ha : At toks 0 exE.toks) (hl : toks.length = exE.toks.length) => (read_whole ex_wf ex_may ha hl).resolve_left (fun h => by rw [ex_deep] at h; exact absurd h.1 (by decide)))
  have HSt : Hid (runS [] exN = some [exE]) := by have := run_tree exE [] ex_wf; rw [ex_nodes] at this; exact this
  have hlen : exN.length = 6 := rfl
  go_enter Tryd.func7, Tryd.ntmps7
  go_wp2_with fail
  refine C1.out.mono ?_
  rintro e w1 ⟨A, c, toks, rfl, hR, hA, hL, q1⟩
  have HQ1 := Lib.hid q1
  have C2 : Hid (Calls Tryd.prog 12 #[.slice A toks.length c, .int .i64 0] w1 fun e w' => ∃ ad c2, e = .returned (.tuple #[.slice (some ad) 6 c2, .int .i64 (toks.length : Int), .int .i64 0]) ∧ Rds w' w'.heap.size (some ad) (cellsG exN) ∧ Q w1 w') := by
    refine (read_any A toks.length c toks w1 0 toks.length exE.nodes rfl hR (by rw [hL]; decide) (HRun.out toks hA hL)).mono ?_
    rintro e w' ⟨A2, n2, c2, rfl, hn, hR2, q2⟩
    rw [ex_nodes] at hn hR2
    rw [hlen] at hn
    subst hn
    obtain ⟨ad, rfl, _⟩ := tok_at hR2 (k := 2) (by decide)
    exact ⟨ad, c2, rfl, hR2, q2⟩
  have HC := Lib.hid (fun (W : World) (ad : Addr) (h : Rds W W.heap.size (some ad) (cellsG exN)) => show
      W.cell? ⟨ad.block, ad.off + 6, none⟩ = some (.int .i64 4) ∧ W.cell? ⟨ad.block, ad.off + 6 + 1, none⟩ = some (.string ⟨#[]⟩) ∧ W.cell? ⟨ad.block, ad.off + 6 + 2, none⟩ = some (.int .i64 2) ∧
      W.cell? ⟨ad.block, ad.off + 12, none⟩ = some (.int .i64 6) ∧ W.cell? ⟨ad.block, ad.off + 12 + 1, none⟩ = some (.string ⟨#[100]⟩) ∧ W.cell? ⟨ad.block, ad.off + 12 + 2, none⟩ = some (.int .i64 2) ∧
      W.cell? ⟨ad.block, ad.off + 15, none⟩ = some (.int .i64 3) ∧ W.cell? ⟨ad.block, ad.off + 15 + 1, none⟩ = some (.string ⟨#[99]⟩) ∧ W.cell? ⟨ad.block, ad.off + 15 + 2, none⟩ = some (.int .i64 2) by
    obtain ⟨ad', e, _, a0, a1, a2⟩ := tok_at h (k := 2) (by decide)
    injection e with e
    subst e
    obtain ⟨ad', e, _, b0, b1, b2⟩ := tok_at h (k := 4) (by decide)
    injection e with e
    subst e
    obtain ⟨ad', e, _, c0, c1, c2⟩ := tok_at h (k := 5) (by decide)
    injection e with e
    subst e
    have e6 : ad.add (2 * 3) = ⟨ad.block, ad.off + 6, none⟩ := by simp [Addr.add]
    have e12 : ad.add (4 * 3) = ⟨ad.block, ad.off + 12, none⟩ := by simp [Addr.add]
    have e15 : ad.add (5 * 3) = ⟨ad.block, ad.off + 15, none⟩ := by simp [Addr.add]
    rw [e6] at a0 a1 a2
    rw [e12] at b0 b1 b2
    rw [e15] at c0 c1 c2
    exact ⟨a0, a1, a2, b0, b1, b2, c0, c1, c2⟩)
  have CR := Lib.hid (fun (W : World) (ad : Addr) (c2 : Nat) (h : Rds W W.heap.size (some ad) (cellsG exN)) => show Calls Tryd.prog 15 #[.slice (some ad) 6 c2] W fun e w' => e = .returned (.bool true) ∧ Q W w' by
    have := rightP_any (some ad) 6 c2 exN exE W rfl h (by decide) (by have := ex_may; rwa [ex_nodes] at this) HSt.out
    rwa [ex_deep] at this)
  have hq : ∀ (x : Tg) (u : World), (binOp .eql 38 (.agg #[.int .i64 x.1, .string x.2.1, .int .i64 x.2.2]) (.agg #[.int .i64 x.1, .string x.2.1, .int .i64 x.2.2])).run Tryd.prog u = .ok (.bool true) u := fun x u => by
    have := run_eql_node u x x
    rwa [(tgEq_iff _ _).2 rfl] at this
  have hq1 := hq (4, ⟨#[]⟩, 2)
  have hq2 := hq (6, ⟨#[100]⟩, 2)
  have hq3 := hq (3, ⟨#[99]⟩, 2)
  simp only at hq1 hq2 hq3
  have hg := node_guard
  clear hR hA hL q1 hlen hq
  go_wp2_with (first
    | (go_at_call 12; refine C2.out.mono ?_; rintro e w2 ⟨ad, c2, rfl, hR2, q2⟩; have HR2 := Lib.hid hR2; have HQ2 := Lib.hid (HQ1.out.trans q2); clear q2; obtain ⟨a0, a1, a2, b0, b1, b2, c0, c1, c2'⟩ := HC.out w2 ad hR2; clear hR2)
    | (go_at_call 15; refine (CR.out _ _ _ HR2.out).mono ?_; rintro e w3 ⟨rfl, q3⟩))
  go_ret
  exact ⟨rfl, HQ2.out.trans q3⟩
end Go.Proofs.YtmbdbmjnibfmgaaDoor.Ex
