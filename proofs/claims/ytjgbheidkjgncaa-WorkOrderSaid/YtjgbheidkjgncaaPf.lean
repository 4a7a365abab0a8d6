/-
  What the proofs lean on, part 6 of 10.
-/
import Derived.Test.YtjgbheidkjgncaaPc
import Derived.Test.YtjgbheidkjgncaaPd
import Derived.Test.YtjgbheidkjgncaaPe
namespace Go.Proofs.Ytjgbheidkjgncaa.Wk
open Go.RowKit Kit Rw
open Go.Proofs.Ytjgbheidkjgncaa.St

theorem sink_fuel : ∀ (f h : Nat) (l : List PI) (i : Nat), l.length ≤ i + f → l.length ≤ i + h → sink f l i = sink h l i
  | 0, h, l, i, hf, _ => by rw [sink_stop (f := h) (fun hh => absurd hh.1 (by omega))]; rfl
  | f + 1, 0, l, i, _, hh => by rw [sink_stop (f := f + 1) (fun h => absurd h.1 (by omega))]; rfl
  | f + 1, h + 1, l, i, hf, hh => by
    by_cases hc : 2 * i + 1 < l.length ∧ ltP (gt l (lesser l i)) (gt l i)
    · have := lesser_is l i
      rw [sink_go hc, sink_go hc]
      exact sink_fuel f h _ _ (by rw [swp_len]; omega) (by rw [swp_len]; omega)
    · rw [sink_stop hc, sink_stop hc]
theorem swp_first {l : List PI} (h : 0 < l.length) : swp l 0 (l.length - 1) = ((l.take (l.length - 1)).set 0 (gt l (l.length - 1))) ++ [gt l 0] := by
  obtain ⟨r, y, rfl⟩ : ∃ r y, l = r ++ [y] := ⟨l.dropLast, l.getLast (by intro e; rw [e] at h; simp at h), (List.dropLast_concat_getLast _).symm⟩
  have e1 : (r ++ [y]).length - 1 = r.length := by simp
  rw [e1]
  have e2 : gt (r ++ [y]) r.length = y := by rw [gt_at (by simp)]; simp
  rw [List.take_left]
  unfold swp
  rw [e2]
  cases r with
  | nil => simp
  | cons a t =>
    rw [List.cons_append, List.set_cons_zero, List.length_cons, List.set_cons_succ, List.set_append_right _ _ (Nat.le_refl _), Nat.sub_self]
    rfl
set_option maxRecDepth 100000 in
set_option maxHeartbeats 1000000 in
theorem heapPop_any (base b g c : Nat) (l : List PI) (w : World) (h : RowW w base b g c l) (h0 : 0 < l.length) :
    Calls Try.prog 49 #[.iface 77 (.pointer (some ⟨b, 0, none⟩))] w fun e w' => e = .returned (.iface 30 (.agg #[.int .i64 (gt l 0).1, .int .i64 (gt l 0).2])) ∧ RowW w' base b g c (nextH l) ∧ Two b g w w' := by
  obtain ⟨n, hn⟩ : ∃ n, n = l.length - 1 := ⟨_, rfl⟩
  obtain ⟨m, hm⟩ : ∃ m, m = (l.take (l.length - 1)).set 0 (gt l (l.length - 1)) := ⟨_, rfl⟩
  have hmn : n = m.length := by rw [hm, List.length_set, List.length_take]; omega
  have hsw := swp_first h0
  rw [← hm, ← hn] at hsw
  have hnx : nextH l = sink n m 0 := by
    unfold nextH
    rw [← hm]
    exact sink_fuel _ _ _ _ (by omega) (by omega)
  rw [hnx]
  generalize hx : gt l 0 = x at *
  have CL := Lib.hid (lenR_any b l.length c (some ⟨g, 0, none⟩) w h.b0)
  have CS := swapR_any base b g c 0 n l w h h0 (by omega)
  rw [hsw] at CS
  have CS := Lib.hid CS
  have CD := Lib.hid (fun (W : World) (hR : RowW W base b g c (m ++ [x])) => down_any base b g c n m x W hR hmn)
  have CP := Lib.hid (fun (W : World) (hR : RowW W base b g c (sink n m 0 ++ [x])) => popR_any base b g c (sink n m 0) x W hR)
  have HC : Hid ((l.length : Int) = (n : Int) + 1) := by unfold Hid; omega
  have hle := h.few
  have hle : n ≤ 1000000 := by omega
  rw [HC.out] at CL
  clear h h0 hn hm hmn hsw hnx hx HC
  obtain ⟨x1, x2⟩ := x
  go_enter Try.func49, Try.ntmps49
  go_wp2_with (first
    | (go_at_call 82; refine CL.out.mono ?_; rintro e w1 ⟨rfl, rfl⟩)
    | (go_at_call 86; refine CS.out.mono ?_; rintro e w2 ⟨rfl, r2, t2⟩)
    | (go_at_call 62; refine (CD.out _ r2).mono ?_; rintro e w3 ⟨⟨v3, rfl⟩, r3, t3⟩)
    | (go_at_call 84; refine (CP.out _ r3).mono ?_; rintro e w4 ⟨rfl, r4, t4⟩))
  go_ret
  exact ⟨rfl, r4, (t2.trans t3).trans t4⟩
end Go.Proofs.Ytjgbheidkjgncaa.Wk

namespace Go.Proofs.Ytjgbheidkjgncaa.Wk
open Go.RowKit Kit Rw
open Go.Proofs.Ytjgbheidkjgncaa.St

section
variable {P : Program} (w : World)
theorem run_append_fits_src (base : Nat) (t ty e : TypeId) (i : TypeInfo) (size : Nat) (ht : P.underlying t = some (.slice e)) (hi : P.info? e = some i) (hsize : i.size = size) (hsz : 0 < size)
    (g n cap : Nat) (xs : List Value) (hown : w.ownsRow base e size (.slice (some ⟨g, 0, none⟩) n cap) n xs)
    (A : Option Addr) (m c : Nat) (cs : List Value) (hl : cs.length = m * size) (hc : Src w A cs) (h1 : ∀ u ∈ cs, u.oneCell' = true) (hroom : n + m ≤ cap) :
    ∃ w', (Builtin.append_ #[t, t] ty #[.slice (some ⟨g, 0, none⟩) n cap, .slice A m c]).run P w = .ok (.slice (some ⟨g, 0, none⟩) (n + m) cap) w' ∧
      w'.ownsRow base e size (.slice (some ⟨g, 0, none⟩) (n + m) cap) (n + m) (xs ++ cs) ∧ w.grownBy w' (some g) := by
  cases A with
  | none =>
    have h0 : ¬ 0 < cs.length := fun h => by obtain ⟨ad, e, _⟩ := hc h; cases e
    obtain rfl : cs = [] := List.eq_nil_of_length_eq_zero (by omega)
    have hm : m = 0 := by
      rcases Nat.eq_zero_or_pos m with e | e
      · exact e
      · have := Nat.mul_pos e hsz
        simp at hl
        omega
    subst hm
    exact ⟨w, run_append_none w base t ty e i size ht hi _ n xs hown c, by simpa using hown, World.grownBy.refl w _⟩
  | some ad =>
    have hn : ∀ j u, cs[j]? = some u → w.cell? (ad.add j) = some u := fun j u hu => by
      have hj := (List.getElem?_eq_some_iff.1 hu).1
      obtain ⟨ad', e, h⟩ := hc (by omega)
      injection e with e
      subst e
      exact h j u hu
    exact run_append_fits (P := P) w base t ty e i size ht hi hsize g n cap xs hown ad m c cs hl hn h1 hroom
theorem wpList_append_fits_src {ops : Array Oper} {rest : List Oper} {o : Oper} {a : Act} {R : Exit → Act → World → Prop} (hgd : o.guard = none) (s x : Operand) (t : TypeId)
    (ho : o.op = .call { callee := .builtin .append, args := #[s, x], argTypes := #[t, t] })
    (base : Nat) (e : TypeId) (i : TypeInfo) (size : Nat) (ht : P.underlying t = some (.slice e)) (hi : P.info? e = some i) (hsize : i.size = size) (hsz : 0 < size)
    (g n cap : Nat) (xs : List Value) (hs : a.eval s = .slice (some ⟨g, 0, none⟩) n cap) (hown : w.ownsRow base e size (.slice (some ⟨g, 0, none⟩) n cap) n xs)
    (A : Option Addr) (m c : Nat) (cs : List Value) (hx : a.eval x = .slice A m c) (hl : cs.length = m * size) (hc : Src w A cs) (h1 : ∀ u ∈ cs, u.oneCell' = true) (hroom : n + m ≤ cap)
    (h : ∀ w', w'.ownsRow base e size (.slice (some ⟨g, 0, none⟩) (n + m) cap) (n + m) (xs ++ cs) → w.grownBy w' (some g) → wpList P ops R rest (a.put o.dst (.slice (some ⟨g, 0, none⟩) (n + m) cap)) w') : wpList P ops R (o :: rest) a w :=
  wpList_plain hgd fun _ hK => by
    obtain ⟨w', hrun, h2, h3⟩ := run_append_fits_src (P := P) w base t o.type e i size ht hi hsize hsz g n cap xs hown A m c cs hl hc h1 hroom
    unfold Oper.wp execOp
    simp only [ho, resolve, invoke, builtin, Sem.run_bind, Sem.run_pure, Result.andThen_ok, List.map_toArray, List.map_cons, List.map_nil, hs, hx, hrun]
    exact hK _ _ (h w' h2 h3)
end
theorem make_pairs (n : Nat) (hn : n ≤ 100000000) (u : World) : (Instr.makeSlice 22 (.int .i64 0) (.int .i64 (n : Int))).run Try.prog u = .ok (.slice (some ⟨u.heap.size, 0, none⟩) 0 n) (u.alloc (.cells (madeCells #[.int .i64 0, .int .i64 0] (n * 2)) 30)) := by
  obtain ⟨i0, hi, hz0, hz1, hz2⟩ := info_parts pairInfo
  have h := run_make (P := Try.prog) u 22 30 i0 _ Try.underlying22 hi hz0 .i64 .i64 (0 : Int) (n : Int) (by omega) (by omega) (by rw [hz2]; omega) (by omega)
  rw [hz1] at h
  exact h
set_option maxRecDepth 100000 in
set_option maxHeartbeats 1000000 in
theorem waiting_any (A : Option Addr) (n c : Nat) (l : List PI) (w : World) (hn : n = l.length) (hr : Rds w w.heap.size A (cellsQ l)) (hl : l.length < 1000000) :
    Calls Try.prog 27 #[.slice A n c] w fun e w' => ∃ b g, e = .returned (.iface 77 (.pointer (some ⟨b, 0, none⟩))) ∧ w.heap.size ≤ g ∧ RowW w' w.heap.size b g (l.length + 1) l ∧ Q w w' := by
  subst hn
  obtain ⟨i0, hi, hz0, hz1, hz2⟩ := info_parts pairInfo
  have Hi := Lib.hid hi
  have Hz1 := Lib.hid hz1
  clear hi hz0 hz1 hz2
  have mk : ∀ u : World, (Instr.makeSlice 22 (.int .i64 0) (.int .i64 ((l.length : Int) + 1))).run Try.prog u = .ok (.slice (some ⟨u.heap.size, 0, none⟩) 0 (l.length + 1)) (u.alloc (.cells (madeCells #[.int .i64 0, .int .i64 0] ((l.length + 1) * 2)) 30)) := fun u => make_pairs (l.length + 1) (by omega) u
  have HL := Lib.hid hl
  have HO := Lib.hid (World.ownsRow_made (size := 2) (e := 30) w (madeCells #[.int .i64 0, .int .i64 0] ((l.length + 1) * 2)) (l.length + 1) (Nat.le_refl _) (by unfold maxLen; omega) (by simp [madeCells]))
  have q1 := (Q.refl w).alloc (Obj.cells (madeCells #[.int .i64 0, .int .i64 0] ((l.length + 1) * 2)) 30)
  have HS := Lib.hid ((hr.q q1).src)
  have HQ := Lib.hid q1
  clear hr q1
  go_enter Try.func27, Try.ntmps27
  go_wp2_with (at_builtin; refine wpList_append_fits_src _ rfl (.tmp 6) (.tmp 7) _ rfl w.heap.size 30 i0 2 Try.underlying22 Hi.out Hz1.out (by omega) w.heap.size 0 (l.length + 1) [] rfl HO.out A l.length c (cellsQ l) rfl (cellsQ_len l) HS.out (cellsQ_one l) (by omega) ?_; intro w1 own1 gr1)
  go_ret
  rw [Nat.zero_add, List.nil_append] at own1
  have hsz : (w.alloc (Obj.cells (madeCells #[.int .i64 0, .int .i64 0] ((l.length + 1) * 2)) 30)).heap.size = w.heap.size + 1 := by simp
  have h1 := gr1.size
  rw [hsz] at h1
  have q2 : Q w w1 := grown_q gr1 HQ.out (Nat.le_refl _)
  have ob := Ex.own_new8 w1 [.slice (some ⟨w.heap.size, 0, none⟩) l.length (l.length + 1), .func (.func 31) #[] #[]] 80
  exact ⟨_, _, rfl, Nat.le_refl _, ⟨by omega, by omega, ob, own1.alloc _, by have := HL.out; omega⟩, q2.alloc _⟩
end Go.Proofs.Ytjgbheidkjgncaa.Wk

namespace Go.Proofs.Ytjgbheidkjgncaa.Wk
open Go.RowKit Kit Rw
open Go.Proofs.Ytjgbheidkjgncaa.St

theorem Two.own {b g k : Nat} {v w : World} {cs : List Value} (t : Two b g v w) (h : OwnC v k cs) (h1 : k ≠ b) (h2 : k ≠ g) : OwnC w k cs := by
  have e := t.block k h.1 h1 h2
  exact ⟨Nat.lt_of_lt_of_le h.1 t.size, fun j u hu => ⟨(World.cell?_of_block (a := ⟨k, j, none⟩) e).trans (h.2 j u hu).1, (World.frozen?_of_block (a := ⟨k, j, none⟩) e).trans (h.2 j u hu).2⟩⟩
theorem RowW.far {w : World} {base b g c : Nat} {l : List PI} (h : RowW w base b g c l) {k i : Nat} (h1 : k ≠ b) (h2 : k ≠ g) (v : Value) : RowW (w.setCell ⟨k, i, none⟩ v) base b g c l :=
  ⟨h.lb, h.ne, h.box.far h1 v, h.own.kept (setCell_grown w k i v) (.inr (fun e => h2 (by simpa [Value.ownBlock] using e.symm))), h.few⟩
theorem Two.far {b g : Nat} {u v : World} (h : Two b g u v) {k i : Nat} (hk : u.heap.size ≤ k) (x : Value) : Two b g u (v.setCell ⟨k, i, none⟩ x) := by
  have t := setCell_grown v k i x
  exact ⟨t.os.trans h.os, t.tape.trans h.tape, t.output.trans h.output, Nat.le_trans h.size t.size, fun j hj a1 a2 => (t.block j (Nat.lt_of_lt_of_le hj h.size) (fun e => by cases e; omega)).trans (h.block j hj a1 a2)⟩
set_option maxRecDepth 100000 in
set_option maxHeartbeats 1000000 in
theorem layR_any (base b g c : Nat) (l : List PI) (p : PI) (w : World) (h : RowW w base b g c l) (hc : l.length + 1 ≤ c) (hl : l.length < 1000000) :
    Calls Try.prog 28 #[.iface 77 (.pointer (some ⟨b, 0, none⟩)), .agg #[.int .i64 p.1, .int .i64 p.2]] w fun e w' => e = .returned (.tuple #[]) ∧ RowW w' base b g c (putH l p) ∧ Two b g w w' := by
  have q1 := (Q.refl w).alloc (Obj.cells #[.int .i64 p.1, .int .i64 p.2] 30)
  have CP := Lib.hid (heapPush_any base b g c l p _ (h.q q1) hc hl)
  have HQ := Lib.hid (Two.of_q (b := b) (g := g) q1)
  clear h hc q1
  obtain ⟨p1, p2⟩ := p
  go_enter Try.func28, Try.ntmps28
  go_wp2_with (go_at_call 46; refine CP.out.mono ?_; rintro e w1 ⟨rfl, r1, t1⟩)
  go_end0
  exact ⟨rfl, r1, HQ.out.trans t1⟩
set_option maxRecDepth 100000 in
set_option maxHeartbeats 1000000 in
theorem takeR_any (base b g c : Nat) (l : List PI) (w : World) (h : RowW w base b g c l) (h0 : 0 < l.length) :
    Calls Try.prog 30 #[.iface 77 (.pointer (some ⟨b, 0, none⟩))] w fun e w' => e = .returned (.agg #[.int .i64 (gt l 0).1, .int .i64 (gt l 0).2]) ∧ RowW w' base b g c (nextH l) ∧ Two b g w w' := by
  have q1 := (Q.refl w).alloc (Obj.cells #[.int .i64 0, .int .i64 0] 30)
  have CP := Lib.hid (heapPop_any base b g c l _ (h.q q1) h0)
  have HQ := Lib.hid (Two.of_q (b := b) (g := g) q1)
  have HO := Lib.hid (Ex.own_new8 w [.int .i64 0, .int .i64 0] 30)
  have hb : Hid (w.heap.size ≠ b ∧ w.heap.size ≠ g) := ⟨by have := h.box.1; omega, by have := h.lg.2; omega⟩
  have ta := fun (u : World) (v : Value) => as_pair v u
  clear h h0 q1
  generalize gt l 0 = x at *
  obtain ⟨x1, x2⟩ := x
  go_enter Try.func30, Try.ntmps30
  go_wp2_with (go_at_call 49; refine CP.out.mono ?_; rintro e w1 ⟨rfl, r1, t1⟩; have ho := t1.own HO.out hb.out.1 hb.out.2; have k0 := (ho.2 0 _ rfl).1; have k1 := (ho.2 1 _ rfl).1; have k2 := (ho.2 0 _ rfl).2; have k3 := (ho.2 1 _ rfl).2; clear ho)
  have y0 : ((w1.setCell ⟨w.heap.size, 0, none⟩ (.int .i64 x1)).setCell ⟨w.heap.size, 1, none⟩ (.int .i64 x2)).cell? ⟨w.heap.size, 0, none⟩ = some (.int .i64 x1) := setCell_ne (by omega) (setCell_eq k0)
  have y1 : ((w1.setCell ⟨w.heap.size, 0, none⟩ (.int .i64 x1)).setCell ⟨w.heap.size, 1, none⟩ (.int .i64 x2)).cell? ⟨w.heap.size, 1, none⟩ = some (.int .i64 x2) := setCell_eq (setCell_ne (by omega) k1)
  refine bodyPost_ret (v := .agg #[.int .i64 x1, .int .i64 x2]) (by simp [results, Try.f30, go_sem, y0, y1]) rfl ?_
  exact ⟨rfl, (r1.far hb.out.1 hb.out.2 _).far hb.out.1 hb.out.2 _, ((HQ.out.trans t1).far (Nat.le_refl _) _).far (Nat.le_refl _) _⟩
end Go.Proofs.Ytjgbheidkjgncaa.Wk

namespace Go.Proofs.Ytjgbheidkjgncaa.Hs
open Go.RowKit Kit

set_option maxRecDepth 100000 in
set_option maxHeartbeats 1000000 in
theorem cloneK_any (A : Option Addr) (n c : Nat) (xs : List Value) (w : World) (hn : n = xs.length) (hr : SrcB w w.heap.size A xs) (h1 : ∀ u ∈ xs, u.oneCell' = true) (hl : xs.length ≤ 100000) :
    Calls Try.prog 47 #[.slice A n c] w fun e w' => ∃ v, e = .returned v ∧ w'.ownsRow w.heap.size 24 1 v xs.length xs ∧ Q w w' := by
  subst hn
  have heq := fun u => Lib.run_eql_slice_nil (P := Try.prog) u 23 24 A xs.length c 0 0 Try.underlying23
  cases A with
  | none =>
    have e : xs = [] := by
      rcases Nat.eq_zero_or_pos xs.length with h | h
      · exact List.eq_nil_of_length_eq_zero h
      · obtain ⟨_, e, _⟩ := hr h; cases e
    subst e
    have heq' : ∀ u, (binOp .eql 23 (.slice none 0 c) (.slice none 0 0)).run Try.prog u = .ok (.bool true) u := heq
    clear heq hr hl
    go_enter Try.func47, Try.ntmps47
    go_wp2_with fail
    go_ret
    exact ⟨_, rfl, World.ownsRow_nil _ _ _ _, Q.refl _⟩
  | some ad =>
    have heq' : ∀ u, (binOp .eql 23 (.slice (some ad) xs.length c) (.slice none 0 0)).run Try.prog u = .ok (.bool false) u := heq
    obtain ⟨i0, hi, hz0, hz1, hz2⟩ := info_parts sliceInfo
    have Hi := Lib.hid hi
    have Hz0 := Lib.hid hz0
    have Hz1 := Lib.hid hz1
    have Hz2 := Lib.hid hz2
    have Hs := Lib.hid (hr.keep ((Q.refl w).alloc (Obj.cells #[] 24)))
    have Ho := Lib.hid (own_empty (base := w.heap.size) (e := 24) (size := 1) (Nat.le_refl _) (heap_alloc_new w (Obj.cells #[] 24)))
    have H1 := Lib.hid h1
    clear heq hi hz0 hz1 hz2 hr h1
    go_enter Try.func47, Try.ntmps47
    go_wp2_with (at_builtin; refine wpList_append_src _ rfl (.tmp 5) (.tmp 6) _ rfl w.heap.size 24 i0 _ 1 24 Try.underlying23 Hi.out Hz0.out Hz1.out Hz2.out rfl (by omega) (.slice (some ⟨w.heap.size, 0, none⟩) 0 0) 0 [] rfl Ho.out (some ad) xs.length c xs rfl (by omega) Hs.out.src H1.out (by unfold maxLen; omega) (by omega) (by simp) ?_; intro v' w' own' gr' _)
    have q2 : Q w w' := ((Q.refl w).alloc (Obj.cells #[] 24)).grown gr' (by simp) (by simp [Value.ownBlock])
    rw [Nat.zero_add, List.nil_append] at own'
    have Ho' := Lib.hid own'
    clear own' gr'
    go_wp2_with fail
    go_ret
    exact ⟨_, rfl, Ho'.out, q2⟩
theorem Rws.more {w : World} {B B' : Nat} {A : Option Addr} {l : List (List Value)} (h : Rws w B A l) (hB : B ≤ B') : Rws w B' A l := fun h0 => by
  obtain ⟨ad, e, hb, hc⟩ := h h0
  exact ⟨ad, e, Nat.lt_of_lt_of_le hb hB, fun i r hr => by obtain ⟨a, c, h1, h2⟩ := hc i r hr; exact ⟨a, c, h1, h2.more hB⟩⟩
def CopyTPost (ks : List (List Int)) (sl : List Int) (w : World) (e : Ending) (w' : World) : Prop :=
  ∃ A c S d, e = .returned (.agg #[.slice A ks.length c, .slice S sl.length d]) ∧
    (∀ W : World, (∀ p : Addr, w.heap.size ≤ p.block → p.block < w'.heap.size → W.cell? p = w'.cell? p) → Keys W w'.heap.size A ks ∧ Ints W w'.heap.size S sl) ∧ Q w w'
set_option maxRecDepth 100000 in
set_option maxHeartbeats 2000000 in
theorem copyT_any (A S : Option Addr) (n c m d : Nat) (K : List (List Int)) (sl : List Int) (w : World) (hn : n = K.length) (hm : m = sl.length) (hk : Keys w w.heap.size A K) (hS : Ints w w.heap.size S sl)
    (hl : K.length ≤ 10000) (ht : K.flatten.length ≤ 100000) (hsl : sl.length ≤ 100000) :
    Calls Try.prog 29 #[.agg #[.slice A n c, .slice S m d]] w (CopyTPost K sl w) := by
  subst hn hm
  obtain ⟨V, hV, sV, vV⟩ := hk.vals
  have q0 := ((Q.refl w).alloc (Obj.cells #[.slice A K.length c, .slice S sl.length d] 26)).alloc (Obj.cells #[.slice none 0 0, .slice none 0 0] 26)
  have HQ0 := Lib.hid q0
  have HB := Lib.hid (TwoB.new w (.slice A K.length c) (.slice S sl.length d) (.slice none 0 0) (.slice none 0 0) 26 26)
  have HSV := Lib.hid ((sV.keep q0).more q0.size)
  have H1 := Lib.hid (vals_one hV vV)
  have HV : Hid (∀ (i : Nat) (k : List Int), K[i]? = some k → ∃ a c, k.length ≤ c ∧ V[i]? = some (Value.slice a k.length c) ∧ Ints w w.heap.size a k) := vV
  have HVl := Lib.hid hV
  have HS := Lib.hid ((hS.q (Nat.le_refl _) q0).more q0.size)
  have HR0 : Hid (Rws w w.heap.size A (K.map cellsI)) := fun h0 => by
    obtain ⟨ad, e, hb, hc⟩ := hk (by simpa using h0)
    refine ⟨ad, e, hb, fun i r hr => ?_⟩
    rw [List.getElem?_map, Option.map_eq_some_iff] at hr
    obtain ⟨k, hk, rfl⟩ := hr
    obtain ⟨a, cc, _, hv, hi⟩ := hc i k hk
    exact ⟨a, cc, by rw [hv]; simp [cellsI], hi.srcB⟩
  have HR := Lib.hid (Rws.more (Rws.keep HR0.out q0) q0.size)
  obtain ⟨T, hT⟩ : ∃ T, T = K.flatten.length := ⟨_, rfl⟩
  have HT : Hid ((K.map cellsI).flatten.length = T) := Lib.hid (by rw [flat_cells, hT]; unfold cellsI; rw [List.length_map])
  have HT' := Lib.hid hT
  rw [← hT] at ht
  have HO1 : Hid (∀ r ∈ K.map cellsI, ∀ u ∈ r, u.oneCell' = true) := fun r hr => by
    rw [List.mem_map] at hr
    obtain ⟨k, _, rfl⟩ := hr
    exact cellsI_one k
  have HKl : Hid ((K.map cellsI).length = K.length) := by unfold Hid; simp
  clear hT hk hS hV sV vV q0 HR0
  go_enter Try.func29, Try.ntmps29
  go_upto_region 1 with fail
  generalize (w.alloc (Obj.cells #[.slice A K.length c, .slice S sl.length d] 26)).alloc (Obj.cells #[.slice none 0 0, .slice none 0 0] 26) = W0 at *
  have k0 := HB.out.c0
  have hlt : w.heap.size < W0.heap.size := by have := HB.out.lt; omega
  go_region_held3 (fun w' => w'.cell? ⟨w.heap.size, 0, none⟩ = some (.slice A K.length c))
    (first
      | go_keep
      | exact (p1.cell (p := ⟨w.heap.size, 0, none⟩) hlt).trans k0
      | exact ((p1.trans q2).cell (p := ⟨w.heap.size, 0, none⟩) hlt).trans k0)
    (first
      | (go_at_call 47; refine (cloneK_any _ _ _ V _ HVl.out.symm (by exact HSV.out) H1.out (by rw [HVl.out]; omega)).mono ?_; rintro e w1 ⟨v1, rfl, own1, q1⟩; have HOwn1 := Lib.hid own1; clear own1; have p1 := (Q.refl W0).drew.trans q1)
      | (go_at_call 48; refine (concatI_any _ _ _ (K.map cellsI) _ HKl.out.symm (Rws.more (Rws.keep HR.out p1) p1.size) (by rw [HKl.out]; exact hl) (by rw [HT.out]; exact ht) HO1.out).mono ?_; rintro e w2 ⟨v2, rfl, own2, q2⟩; have HOwn2 := Lib.hid own2; clear own2))
  have own1 := HOwn1.out
  rw [HVl.out] at own1
  obtain ⟨A1, c1, hv1, hcp1, hf1⟩ := own_form own1
  have HC1 := Lib.hid hcp1
  obtain ⟨g, hg⟩ : ∃ g, 0 < K.length → A1 = some ⟨g, 0, none⟩ ∧ W0.heap.size ≤ g ∧ g < w1.heap.size ∧ ∀ j u, V[j]? = some u → w1.cell? ⟨g, j, none⟩ = some u ∧ w1.frozen? ⟨g, j, none⟩ = false := by
    by_cases h0 : 0 < K.length
    · obtain ⟨g, h1, h2, h3, h4⟩ := hf1 h0
      exact ⟨g, fun _ => ⟨h1, h2, h3, h4⟩⟩
    · exact ⟨0, fun h => absurd h h0⟩
  have Hg := Lib.hid hg
  subst hv1
  have own2 := HOwn2.out
  rw [HT.out, flat_cells] at own2
  obtain ⟨A2, c2, hv2, hc2, hf2⟩ := own_form own2
  subst hv2
  have q02 := p1.trans q2
  obtain ⟨gr, hgr1, HI2, hgr2⟩ : ∃ gr, w1.heap.size ≤ gr ∧ Hid (IntsIn w2 gr A2 K.flatten) ∧ (gr < w2.heap.size ∨ K.flatten.length = 0) := by
    by_cases h0 : 0 < K.flatten.length
    · obtain ⟨gr, h1, h2, h3, h4⟩ := hf2 (by rw [HT'.out]; exact h0)
      refine ⟨gr, h2, Lib.hid fun _ => ⟨_, h1, rfl, fun i x hx => ?_⟩, .inl h3⟩
      rw [add_zero_head]
      exact (h4 i (.int .i64 x) (by unfold cellsI; rw [List.getElem?_map, hx]; rfl)).1
    · exact ⟨w1.heap.size, Nat.le_refl _, Lib.hid fun h => absurd h h0, .inr (by omega)⟩
  have HF0 : Hid (Fill w2 g gr K 0) := fun i key hi => by
    have hil := (List.getElem?_eq_some_iff.1 hi).1
    obtain ⟨_, _, h3, h4⟩ := Hg.out (by omega)
    obtain ⟨a, cc, hle, hv, _⟩ := HV.out i key hi
    have := h4 i _ hv
    exact ⟨(q2.frozen (p := ⟨g, i, none⟩) h3).trans this.2, a, cc, hle, (q2.cell (p := ⟨g, i, none⟩) h3).trans this.1, fun h => by omega⟩
  have Hgr2 := Lib.hid hgr2
  have HQ2 := Lib.hid q2
  have hw1 := p1.size
  clear hf2 own2 own1 HR HO1 HV hgr2 HOwn1 HOwn2 hf1 hg k0 q1 q2 p1 hcp1
  go_wp2_with fail
  go_loopw [4, 15] (fun r i wr => ∃ (k R cr : Nat) (Ar : Option Addr), k ≤ K.length ∧ i = .int .i64 k ∧ r = .slice Ar R cr ∧ R ≤ cr ∧ R ≤ 100000 ∧ Hid (R = (K.drop k).flatten.length) ∧ Hid (IntsIn wr gr Ar (K.drop k).flatten) ∧ Hid (Fill wr g gr K k) ∧ Hid (wr.heap.size = w2.heap.size) ∧ Q W0 wr) (fun _ i _ => K.length - (intOf i).toNat)
  case atStart => exact ⟨0, _, _, _, Nat.zero_le _, rfl, rfl, hc2, ht, HT', HI2, HF0, Lib.hid rfl, q02⟩
  case round =>
    obtain ⟨k, R, cr, Ar, hk, rfl, rfl, hRc, hR, HRl, HI, HFi, Hsz, qr⟩ := hrel
    by_cases hlt : k < K.length
    · obtain ⟨rfl, hwg, hg1, _⟩ := Hg.out (by omega)
      obtain ⟨f0, a0, cc, _, k0, _⟩ := HFi.out k K[k] (List.getElem?_eq_getElem hlt)
      have hD : (K.drop k).flatten = K[k] ++ (K.drop (k + 1)).flatten := by rw [List.drop_eq_getElem_cons hlt, List.flatten_cons]
      have hLR : K[k].length ≤ R := by have := HRl.out; rw [hD, List.length_append] at this; omega
      have hLc : K[k].length ≤ cr := by omega
      have hs1 := slice_hm Ar R cr K[k].length hLc
      have hs2 := slice_l Ar R cr K[k].length hLR
      have HIk : Hid (IntsIn wr gr Ar K[k]) := by
        have := HI.out.take K[k].length
        rw [hD, List.take_left'] at this
        · exact this
        · rfl
      have HId : Hid (IntsIn wr gr (cutAt Ar cr K[k].length) (K.drop (k + 1)).flatten) := by
        have := HI.out.drop K[k].length cr (by have := HRl.out; omega)
        rw [hD, List.drop_left'] at this
        · exact this
        · rfl
      have HRd : Hid (R - K[k].length = (K.drop (k + 1)).flatten.length) := by have := HRl.out; rw [hD, List.length_append] at this; exact Lib.hid (by omega)
      have hgg : g ≠ gr := by omega
      have Hlt := Lib.hid hlt
      clear hD
      go_wp2_with fail
      go_roundw
      case rel => exact ⟨k + 1, _, _, _, by omega, by go_num, rfl, by omega, by omega, HRd, Lib.hid (HId.out.set hgg _), Lib.hid (HFi.out.step Hlt.out hgg HIk.out), Lib.hid (by rw [← Hsz.out]; simp [World.setCell]), qr.setCell (p := ⟨g, k, none⟩) hwg _⟩
      case measure => simp [intOf]; omega
    · obtain rfl : k = K.length := by omega
      have HBr := Lib.hid (HB.out.q qr)
      have c1' := HBr.out.c1
      have HSr := Lib.hid ((HS.out.q (Nat.le_refl _) qr).more qr.size)
      go_upto_region 8 with fail
      go_wp2_with (go_at_call 43; refine (clone_any _ _ _ sl _ rfl HSr.out hsl).mono ?_; rintro e w3 ⟨S3, d3, rfl, hS3, q3⟩; have HS3 := Lib.hid hS3; have HB3 := Lib.hid (HBr.out.q q3); have r0 := HB3.out.r0; have r1 := HB3.out.r1; have f0 := HB3.out.f0; have f1 := HB3.out.f1; clear hS3)
      obtain ⟨y0, y1, yq⟩ := set_two (w := w) (u := .slice A1 K.length c1) (v := .slice S3 sl.length d3) r0 r1
      have hz : ((w3.setCell ⟨w.heap.size + 1, 0, none⟩ (.slice A1 K.length c1)).setCell ⟨w.heap.size + 1, 1, none⟩ (.slice S3 sl.length d3)).heap.size = w3.heap.size := by simp [World.setCell]
      refine bodyPost_ret (v := .agg #[.slice A1 K.length c1, .slice S3 sl.length d3]) (by simp [results, Try.f29, go_sem, y0, y1]) rfl
        ⟨A1, c1, S3, d3, rfl, fun W hWW => ?_, yq (HQ0.out.trans (qr.trans q3))⟩
      rw [hz] at hWW ⊢
      have hl2 := HB.out.lt
      have hW : ∀ q : Addr, W0.heap.size ≤ q.block → q.block < w3.heap.size → W.cell? q = w3.cell? q := fun q hq hq2 => (hWW q (by omega) hq2).trans (set_two_other _ _ _ _ _ (by omega))
      have hs3 := q3.size
      have hsr := qr.size
      refine ⟨fun h0 => ?_, clone_intsF (HS3.out) (Q.refl _) rfl fun q hq hq2 => hW q (by omega) hq2⟩
      obtain ⟨rfl, hg0, hg1, _⟩ := Hg.out h0
      have hk := HFi.out.keys (W := W) (lo := W0.heap.size) (B := wr.heap.size) (by rw [Hsz.out]; have := HQ2.out.size; omega) (by rw [Hsz.out]; exact Hgr2.out) hg0 (by omega) (fun q hq hq2 => (hW q hq (by omega)).trans (q3.cell hq2))
      exact (hk.more hs3) h0
end Go.Proofs.Ytjgbheidkjgncaa.Hs

namespace Go.Proofs.Ytjgbheidkjgncaa.Wk
open Go.RowKit Kit Rw
open Go.Proofs.Ytjgbheidkjgncaa.St
open Go.Proofs.Ytjgbheidkjgncaa.Hs (Keys Ints layI sizeN lay_any OwnI)
set_option maxHeartbeats 1000000 in
theorem lessW_any (p q : PI) (w : World) :
    Calls Try.prog 13 #[.agg #[.int .i64 p.1, .int .i64 p.2], .agg #[.int .i64 q.1, .int .i64 q.2]] w fun e w' => e = .returned (.bool (decide (ltP p q))) ∧ Q w w' := by
  have q0 := ((Q.refl w).alloc (Obj.cells #[.int .i64 p.1, .int .i64 p.2] 30)).alloc (Obj.cells #[.int .i64 q.1, .int .i64 q.2] 30)
  have C := Lib.hid (isLess_any p q _ |>.mono fun e w' h => (⟨h.1, q0.trans h.2⟩ : e = .returned (.bool (decide (ltP p q))) ∧ Q w w'))
  obtain ⟨p1, p2⟩ := p
  obtain ⟨q1, q2⟩ := q
  clear q0
  go_enter Try.func13, Try.ntmps13
  go_wp2_with (go_at_call 31; refine C.out.mono ?_; rintro e w4 ⟨rfl, q4⟩)
  go_ret
  exact ⟨rfl, q4⟩
theorem own_three {w : World} {B : Nat} {x y z : Value} (h : OwnC w B [x, y, z]) (a b c : Value) : OwnC (((w.setCell ⟨B, 0, none⟩ a).setCell ⟨B, 1, none⟩ b).setCell ⟨B, 2, none⟩ c) B [a, b, c] :=
  ((h.set (s := 0) (by simp) a).set (s := 1) (by simp) b).set (s := 2) (by simp) c
theorem own_two {w : World} {B : Nat} {x y : Value} (h : OwnC w B [x, y]) (a b : Value) : OwnC ((w.setCell ⟨B, 0, none⟩ a).setCell ⟨B, 1, none⟩ b) B [a, b] :=
  (h.set (s := 0) (by simp) a).set (s := 1) (by simp) b
/-- a queue's three rows, read -/
structure QRd (w : World) (B A S : Option Addr) (k kc n c m d : Nat) (l : List PI) (ks : List (List Int)) (sl : List Int) : Prop where
  hk : k = l.length
  hn : n = ks.length
  hm : m = sl.length
  cap : l.length ≤ kc
  rd : Rds w w.heap.size B (cellsQ l)
  keys : Keys w w.heap.size A ks
  ints : Ints w w.heap.size S sl
theorem QRd.q {w w' : World} {B A S : Option Addr} {k kc n c m d : Nat} {l : List PI} {ks : List (List Int)} {sl : List Int} (h : QRd w B A S k kc n c m d l ks sl) (q : Q w w') : QRd w' B A S k kc n c m d l ks sl :=
  ⟨h.hk, h.hn, h.hm, h.cap, h.rd.q q, (h.keys.q (Nat.le_refl _) q).more q.size, (h.ints.q (Nat.le_refl _) q).more q.size⟩
/-- the same, in memory of the call's own: whatever is done to other blocks -/
def QFr (w w' : World) (B A S : Option Addr) (k kc n c m d : Nat) (l : List PI) (ks : List (List Int)) (sl : List Int) : Prop :=
  ∀ W : World, w'.heap.size ≤ W.heap.size → (∀ p : Addr, w.heap.size ≤ p.block → p.block < w'.heap.size → W.cell? p = w'.cell? p) → QRd W B A S k kc n c m d l ks sl
theorem QFr.self {w w' : World} {B A S : Option Addr} {k kc n c m d : Nat} {l : List PI} {ks : List (List Int)} {sl : List Int} (h : QFr w w' B A S k kc n c m d l ks sl) : QRd w' B A S k kc n c m d l ks sl := h w' (Nat.le_refl _) fun _ _ _ => rfl
theorem own_frC {w WD W : World} {g : Nat} {cs : List Value} (h : OwnC WD g cs) (hg : w.heap.size ≤ g) (hs : WD.heap.size ≤ W.heap.size) (hW : ∀ p : Addr, w.heap.size ≤ p.block → p.block < WD.heap.size → W.cell? p = WD.cell? p) : Rds W W.heap.size (some ⟨g, 0, none⟩) cs :=
  fun _ => ⟨_, rfl, Nat.lt_of_lt_of_le h.1 hs, fun j v hv => by rw [add_zero_head, hW _ hg h.1]; exact (h.2 j v hv).1⟩
theorem own_frR {w WD W : World} {base n c size : Nat} {e : TypeId} {B : Option Addr} {cs : List Value} (h : WD.ownsRow base e size (.slice B n c) n cs) (hb : w.heap.size ≤ base) (hs : WD.heap.size ≤ W.heap.size) (hW : ∀ p : Addr, w.heap.size ≤ p.block → p.block < WD.heap.size → W.cell? p = WD.cell? p) : Rds W W.heap.size B cs := by
  have h2 := h
  obtain ⟨hl, ⟨e, h0⟩ | ⟨g, cap, cur, e, hg, _⟩⟩ := h
  · intro hp
    subst h0
    rw [Nat.zero_mul] at hl
    omega
  · cases e
    exact own_frC (OwnC.of_row h2) (Nat.le_trans hb hg) hs hW
set_option maxRecDepth 100000 in
set_option maxHeartbeats 1000000 in
theorem newW_any (w : World) :
    Calls Try.prog 16 #[] w fun e w' => ∃ S m d, e = .returned (.agg #[.slice none 0 0, .slice none 0 0, .slice S m d]) ∧ QFr w w' none none S 0 0 0 0 m d [] [] (layI []) ∧ Q w w' := by
  have q0 := (Q.refl w).alloc (Obj.cells #[.slice none 0 0, .slice none 0 0, .slice none 0 0] 28)
  have C := Lib.hid (lay_any none 0 0 [] (w.alloc (Obj.cells #[.slice none 0 0, .slice none 0 0, .slice none 0 0] 28)) rfl (fun h => absurd h (by simp)) (by simp) (by simp))
  have HQ := Lib.hid q0
  have HO := Lib.hid (Ex.own_new8 w [.slice none 0 0, .slice none 0 0, .slice none 0 0] 28)
  clear q0
  go_enter Try.func16, Try.ntmps16
  go_wp2_with (go_at_call 32; refine C.out.mono ?_; rintro e w1 ⟨g, rfl, hg, hO, q1⟩; have HG := Lib.hid hO; have h1 := (HO.out.q q1); have k0 := (h1.2 0 _ rfl).1; have k1 := (h1.2 1 _ rfl).1; have k2 := (h1.2 2 _ rfl).1; have f0 := (h1.2 0 _ rfl).2; have f1 := (h1.2 1 _ rfl).2; have f2 := (h1.2 2 _ rfl).2; have H1 := Lib.hid h1; clear h1 hO)
  have ho := own_three H1.out (.slice none 0 0) (.slice none 0 0) (.slice (some ⟨g, 0, none⟩) (sizeN 0) (sizeN 0))
  have y0 := (ho.2 0 _ rfl).1
  have y1 := (ho.2 1 _ rfl).1
  have y2 := (ho.2 2 _ rfl).1
  have hgw : w.heap.size < g := by have : (w.alloc (Obj.cells #[.slice none 0 0, .slice none 0 0, .slice none 0 0] 28)).heap.size = w.heap.size + 1 := by simp
                                   omega
  refine bodyPost_ret (v := .agg #[.slice none 0 0, .slice none 0 0, .slice (some ⟨g, 0, none⟩) (sizeN 0) (sizeN 0)]) (by simp [results, Try.f16, go_sem, y0, y1, y2]) rfl ?_
  refine ⟨_, _, _, rfl, fun W hs hW => ⟨rfl, rfl, by rw [Hs.layI_length]; rfl, Nat.le_refl _, Rds.nil _ _ _, fun h => absurd h (by simp), fun _ => ⟨_, rfl, ?_, fun i x hx => ?_⟩⟩, (((HQ.out.trans q1).setCell (p := ⟨w.heap.size, 0, none⟩) (Nat.le_refl _) _).setCell (p := ⟨w.heap.size, 1, none⟩) (Nat.le_refl _) _).setCell (p := ⟨w.heap.size, 2, none⟩) (Nat.le_refl _) _⟩
  · have h1 : w1.heap.size ≤ W.heap.size := by simpa [World.setCell] using hs
    exact Nat.lt_of_lt_of_le HG.out.1 h1
  · obtain ⟨a1, _⟩ := HG.out.2 i x hx
    rw [add_zero_head, hW ⟨g, i, none⟩ (Nat.le_of_lt hgw) (by simpa [World.setCell] using HG.out.1)]
    exact (World.cell?_setCell_far _ _ _ _ (show w.heap.size ≠ g by omega)).trans ((World.cell?_setCell_far _ _ _ _ (show w.heap.size ≠ g by omega)).trans ((World.cell?_setCell_far _ _ _ _ (show w.heap.size ≠ g by omega)).trans a1))
end Go.Proofs.Ytjgbheidkjgncaa.Wk

namespace Go.Proofs.Ytjgbheidkjgncaa.Wk
open Go.RowKit Kit Rw
open Go.Proofs.Ytjgbheidkjgncaa.St
open Go.Proofs.Ytjgbheidkjgncaa.Hs (Keys Ints CopyTPost copyT_any)
theorem RowW.low {w : World} {base base' b g c : Nat} {l : List PI} (h : RowW w base b g c l) (hb : base' ≤ base) : RowW w base' b g c l :=
  ⟨Nat.le_trans hb h.lb, h.ne, h.box, row_kept h.own (Q.refl w) hb, h.few⟩
theorem far3 {W : World} {p : Addr} {v : Value} (h : W.cell? p = some v) {B : Nat} (n : B ≠ p.block) {x y z : Value} : (((W.setCell ⟨B, 0, none⟩ x).setCell ⟨B, 1, none⟩ y).setCell ⟨B, 2, none⟩ z).cell? p = some v :=
  (World.cell?_setCell_far _ _ _ _ n).trans ((World.cell?_setCell_far _ _ _ _ n).trans ((World.cell?_setCell_far _ _ _ _ n).trans h))
theorem far2 {W : World} {p : Addr} {v : Value} (h : W.cell? p = some v) {B : Nat} (n : B ≠ p.block) {x y : Value} : ((W.setCell ⟨B, 0, none⟩ x).setCell ⟨B, 1, none⟩ y).cell? p = some v :=
  (World.cell?_setCell_far _ _ _ _ n).trans ((World.cell?_setCell_far _ _ _ _ n).trans h)
/-- behind a queue's row and table are copied -/
def NxR (W0 : World) (l : List PI) (ks : List (List Int)) (sl : List Int) (u v : Value) (wc : World) : Prop :=
  ∃ (b g t lo hi : Nat) (A S : Option Addr) (c d : Nat), u = .iface 77 (.pointer (some ⟨b, 0, none⟩)) ∧ v = .pointer (some ⟨t, 0, none⟩) ∧
    Hid (RowW wc W0.heap.size b g (l.length + 1) l) ∧ Hid (OwnC wc t [.slice A ks.length c, .slice S sl.length d]) ∧ Hid (Q W0 wc) ∧
    Hid (∀ W : World, (∀ p : Addr, lo ≤ p.block → p.block < hi → W.cell? p = wc.cell? p) → Keys W hi A ks ∧ Ints W hi S sl) ∧
    Hid (W0.heap.size ≤ b ∧ W0.heap.size ≤ g ∧ W0.heap.size ≤ t ∧ t ≠ b ∧ t ≠ g ∧ b < lo ∧ g < lo ∧ hi ≤ wc.heap.size ∧ (t < lo ∨ hi ≤ t))
set_option maxRecDepth 100000 in
set_option maxHeartbeats 2000000 in
theorem nextW_any (B A S : Option Addr) (k kc n c m d : Nat) (l : List PI) (ks : List (List Int)) (sl : List Int) (w : World) (h : QRd w B A S k kc n c m d l ks sl) (h0 : 0 < l.length)
    (hll : l.length < 1000000) (hl : ks.length ≤ 10000) (ht : ks.flatten.length ≤ 100000) (hsl : sl.length ≤ 100000) :
    Calls Try.prog 12 #[.agg #[.slice B k kc, .slice A n c, .slice S m d]] w fun e w' => ∃ B' kc' A' S' c' d', e = .returned (.tuple #[.agg #[.slice B' (nextH l).length kc', .slice A' ks.length c', .slice S' sl.length d'], .agg #[.int .i64 (gt l 0).1, .int .i64 (gt l 0).2], .bool true]) ∧
      QFr w w' B' A' S' (nextH l).length kc' ks.length c' sl.length d' (nextH l) ks sl ∧ Q w w' := by
  obtain ⟨hk, hn, hm, hcap, hrd, hkeys, hints⟩ := h
  subst hk hn hm
  have q0 := (((Q.refl w).alloc (Obj.cells #[.slice B l.length kc, .slice A ks.length c, .slice S sl.length d] 28)).alloc (Obj.cells #[.slice none 0 0, .slice none 0 0, .slice none 0 0] 28)).alloc (Obj.cells #[.int .i64 0, .int .i64 0] 30)
  have HQ0 := Lib.hid q0
  have HR := Lib.hid (hrd.q q0)
  have HK := Lib.hid ((hkeys.q (Nat.le_refl _) q0).more q0.size)
  have HS := Lib.hid ((hints.q (Nat.le_refl _) q0).more q0.size)
  obtain ⟨W0, hW0⟩ : ∃ W0, W0 = ((w.alloc (Obj.cells #[.slice B l.length kc, .slice A ks.length c, .slice S sl.length d] 28)).alloc (Obj.cells #[.slice none 0 0, .slice none 0 0, .slice none 0 0] 28)).alloc (Obj.cells #[.int .i64 0, .int .i64 0] 30) := ⟨_, rfl⟩
  have HW0 := Lib.hid hW0
  have o1 := Ex.own_new8 w [.slice B l.length kc, .slice A ks.length c, .slice S sl.length d] 28
  have o1 := o1.q (((Q.refl _).alloc (Obj.cells #[.slice none 0 0, .slice none 0 0, .slice none 0 0] 28)).alloc (Obj.cells #[.int .i64 0, .int .i64 0] 30))
  have o2 := (Ex.own_new8 (w.alloc (Obj.cells #[.slice B l.length kc, .slice A ks.length c, .slice S sl.length d] 28)) [.slice none 0 0, .slice none 0 0, .slice none 0 0] 28).q ((Q.refl _).alloc (Obj.cells #[.int .i64 0, .int .i64 0] 30))
  have o3 := Ex.own_new8 ((w.alloc (Obj.cells #[.slice B l.length kc, .slice A ks.length c, .slice S sl.length d] 28)).alloc (Obj.cells #[.slice none 0 0, .slice none 0 0, .slice none 0 0] 28)) [.int .i64 0, .int .i64 0] 30
  rw [show (w.alloc (Obj.cells #[.slice B l.length kc, .slice A ks.length c, .slice S sl.length d] 28)).heap.size = w.heap.size + 1 by simp] at o2
  rw [show ((w.alloc (Obj.cells #[.slice B l.length kc, .slice A ks.length c, .slice S sl.length d] 28)).alloc (Obj.cells #[.slice none 0 0, .slice none 0 0, .slice none 0 0] 28)).heap.size = w.heap.size + 2 by simp] at o3
  have hz : Hid (W0.heap.size = w.heap.size + 3) := by unfold Hid; rw [hW0]; simp
  have hle : w.heap.size + 2 < W0.heap.size := by have := hz.out; omega
  rw [← hW0] at o1 o2 o3 HQ0 HR HK HS
  have HO1 := Lib.hid o1
  have HO2 := Lib.hid o2
  have HO3 := Lib.hid o3
  obtain ⟨nl, hnl⟩ : ∃ nl, nl = nextH l := ⟨_, rfl⟩
  obtain ⟨x, hx⟩ : ∃ x, x = gt l 0 := ⟨_, rfl⟩
  have HLn : Hid (nl.length + 1 = l.length) := by unfold Hid; rw [hnl]; exact nextH_len h0
  rw [← hnl, ← hx]
  have HNl := Lib.hid hnl
  have HXl := Lib.hid hx
  clear hrd hkeys hints q0 hW0 o1 o2 o3 hnl hx
  go_enter Try.func12, Try.ntmps12
  go_upto_region 1 with fail
  rw [← HW0.out]
  go_cut [5, 6] (NxR W0 l ks sl)
  case first =>
    have c0 := (HO1.out.2 0 _ rfl).1
    have c1 := (HO1.out.2 1 _ rfl).1
    have c2 := (HO1.out.2 2 _ rfl).1
    have hlt0 : w.heap.size < W0.heap.size := by omega
    have HRa : Hid (Rds (W0.alloc (Obj.cells #[.slice none 0 0, .slice none 0 0] 26)).drew (W0.alloc (Obj.cells #[.slice none 0 0, .slice none 0 0] 26)).drew.heap.size B (cellsQ l)) := HR.out.q (((Q.refl W0).alloc _).drew)
    have HXa : Hid (OwnC (W0.alloc (Obj.cells #[.slice none 0 0, .slice none 0 0] 26)).drew W0.heap.size [.slice none 0 0, .slice none 0 0]) := Ex.own_new8 W0 [.slice none 0 0, .slice none 0 0] 26
    go_region_held3 (fun w' => w'.cell? ⟨w.heap.size, 0, none⟩ = some (.slice B l.length kc) ∧ w'.cell? ⟨w.heap.size, 1, none⟩ = some (.slice A ks.length c) ∧ w'.cell? ⟨w.heap.size, 2, none⟩ = some (.slice S sl.length d))
      (first
        | go_keep
        | exact ⟨(p2.cell (p := ⟨w.heap.size, 0, none⟩) hlt0).trans c0, (p2.cell (p := ⟨w.heap.size, 1, none⟩) hlt0).trans c1, (p2.cell (p := ⟨w.heap.size, 2, none⟩) hlt0).trans c2⟩
        | exact ⟨((p2.alloc _).cell (p := ⟨w.heap.size, 0, none⟩) hlt0).trans c0, ((p2.alloc _).cell (p := ⟨w.heap.size, 1, none⟩) hlt0).trans c1, ((p2.alloc _).cell (p := ⟨w.heap.size, 2, none⟩) hlt0).trans c2⟩
        | exact ⟨(p1.cell (p := ⟨w.heap.size, 0, none⟩) hlt0).trans c0, (p1.cell (p := ⟨w.heap.size, 1, none⟩) hlt0).trans c1, (p1.cell (p := ⟨w.heap.size, 2, none⟩) hlt0).trans c2⟩
        | exact ⟨((p1.alloc _).cell (p := ⟨w.heap.size, 0, none⟩) hlt0).trans c0, ((p1.alloc _).cell (p := ⟨w.heap.size, 1, none⟩) hlt0).trans c1, ((p1.alloc _).cell (p := ⟨w.heap.size, 2, none⟩) hlt0).trans c2⟩
        | exact ⟨(((p2.setCell (p := ⟨W0.heap.size, 0, none⟩) (Nat.le_refl _) _).setCell (p := ⟨W0.heap.size, 1, none⟩) (Nat.le_refl _) _).cell (p := ⟨w.heap.size, 0, none⟩) hlt0).trans c0, (((p2.setCell (p := ⟨W0.heap.size, 0, none⟩) (Nat.le_refl _) _).setCell (p := ⟨W0.heap.size, 1, none⟩) (Nat.le_refl _) _).cell (p := ⟨w.heap.size, 1, none⟩) hlt0).trans c1, (((p2.setCell (p := ⟨W0.heap.size, 0, none⟩) (Nat.le_refl _) _).setCell (p := ⟨W0.heap.size, 1, none⟩) (Nat.le_refl _) _).cell (p := ⟨w.heap.size, 2, none⟩) hlt0).trans c2⟩
        | exact ⟨(((p2.setCell (p := ⟨w1.heap.size, 0, none⟩) p1.size _).setCell (p := ⟨w1.heap.size, 1, none⟩) p1.size _).cell (p := ⟨w.heap.size, 0, none⟩) hlt0).trans c0, (((p2.setCell (p := ⟨w1.heap.size, 0, none⟩) p1.size _).setCell (p := ⟨w1.heap.size, 1, none⟩) p1.size _).cell (p := ⟨w.heap.size, 1, none⟩) hlt0).trans c1, (((p2.setCell (p := ⟨w1.heap.size, 0, none⟩) p1.size _).setCell (p := ⟨w1.heap.size, 1, none⟩) p1.size _).cell (p := ⟨w.heap.size, 2, none⟩) hlt0).trans c2⟩)
      (first
        | (go_at_call 27; refine (waiting_any B _ kc l _ rfl (by first | with_reducible exact HRa.out | exact HR.out) hll).mono ?_; rintro e w1 ⟨b, g, rfl, hbg, hrow, q1⟩; have HRow := Lib.hid hrow; clear hrow; have p1 : Q W0 w1 := (by first | exact (Q.refl W0).drew.trans q1 | exact ((Q.refl W0).alloc _).drew.trans q1); (first | have bx := HXa.out.q q1 | skip))
        | (go_at_call 29; refine (copyT_any _ _ _ c _ d ks sl _ rfl rfl (by first | exact (HK.out.q (Nat.le_refl _) p1).more p1.size | exact (HK.out.q (Nat.le_refl _) (p1.alloc _)).more (p1.alloc _).size) (by first | exact (HS.out.q (Nat.le_refl _) p1).more p1.size | exact (HS.out.q (Nat.le_refl _) (p1.alloc _)).more (p1.alloc _).size) hl ht hsl).mono ?_; rintro e w2 ⟨A', c', S', d', rfl, hC, q2⟩; have HC := Lib.hid hC; clear hC; have p2 : Q W0 w2 := (by first | exact p1.trans q2 | exact (p1.alloc _).trans q2); (first | (have bx2 := bx.q q2; have y0 := (bx2.2 0 _ rfl).1; have y1 := (bx2.2 1 _ rfl).1; have z0 := (bx2.2 0 _ rfl).2; have z1 := (bx2.2 1 _ rfl).2) | (have bx2 := (Ex.own_new8 w1 [.slice none 0 0, .slice none 0 0] 26).q q2; have y0 := (bx2.2 0 _ rfl).1; have y1 := (bx2.2 1 _ rfl).1; have z0 := (bx2.2 0 _ rfl).2; have z1 := (bx2.2 1 _ rfl).2) | skip)))
    · go_wp2_with fail
      go_meet
      have r1 := ((HRow.out.low (Nat.le_refl _)).q q2).q ((Q.refl w2).alloc (Obj.cells #[.slice A' ks.length c', .slice S' sl.length d'] 26))
      have hb1 := HRow.out.box.1
      have hg1 := HRow.out.lg.2
      have hb0 : W0.heap.size ≤ b := HRow.out.lb
      have hg0 : W0.heap.size ≤ g := hbg
      have hs2 := q2.size
      have hz2 : (w2.alloc (Obj.cells #[.slice A' ks.length c', .slice S' sl.length d'] 26)).heap.size = w2.heap.size + 1 := by simp
      exact ⟨b, g, w2.heap.size, w1.heap.size, w2.heap.size, A', S', c', d', rfl, rfl, r1, Ex.own_new8 w2 [.slice A' ks.length c', .slice S' sl.length d'] _, p2.alloc _, fun W hW => HC.out W (fun p h1 h2 => (hW p h1 h2).trans (((Q.refl w2).alloc _).cell h2)), ⟨hb0, hg0, p2.size, by omega, by omega, hb1, hg1, by omega, .inr (Nat.le_refl _)⟩⟩
    · go_wp2_with fail
      go_meet
      have q12 : Q w1 w2 := ((Q.refl w1).alloc _).trans q2
      have hb1 := HRow.out.box.1
      have hg1 := HRow.out.lg.2
      have hb0 : W0.heap.size ≤ b := HRow.out.lb
      have hg0 : W0.heap.size ≤ g := hbg
      have e1 : (w1.alloc (Obj.cells #[.slice none 0 0, .slice none 0 0] 26)).heap.size = w1.heap.size + 1 := by simp
      have hs2 := q2.size
      have hp1 := p1.size
      have r1 := (((HRow.out.low (Nat.le_refl _)).q q12).far (k := w1.heap.size) (i := 0) (by omega) (by omega) (.slice A' ks.length c')).far (k := w1.heap.size) (i := 1) (by omega) (by omega) (.slice S' sl.length d')
      refine ⟨b, g, w1.heap.size, w1.heap.size + 1, w2.heap.size, A', S', c', d', rfl, rfl, r1, own_two bx2 _ _, ((p2.setCell (p := ⟨w1.heap.size, 0, none⟩) p1.size _).setCell (p := ⟨w1.heap.size, 1, none⟩) p1.size _), fun W hW => HC.out W (fun p h1 h2 => (hW p (by have h1' : (w1.alloc (Obj.cells #[.slice none 0 0, .slice none 0 0] 26)).heap.size ≤ p.block := h1; omega) h2).trans ?_), ⟨hb0, hg0, p1.size, by omega, by omega, by omega, by omega, by simp [World.setCell], .inl (by omega)⟩⟩
      have h1' : (w1.alloc (Obj.cells #[.slice none 0 0, .slice none 0 0] 26)).heap.size ≤ p.block := h1
      exact (World.cell?_setCell_far _ _ _ _ (show w1.heap.size ≠ p.block by omega)).trans (World.cell?_setCell_far _ _ _ _ (show w1.heap.size ≠ p.block by omega))
    · go_wp2_with fail
      go_meet
      have e1 : (W0.alloc (Obj.cells #[.slice none 0 0, .slice none 0 0] 26)).drew.heap.size = W0.heap.size + 1 := by show (W0.alloc _).heap.size = _; simp
      have hb1 := HRow.out.box.1
      have hg1 := HRow.out.lg.2
      have hb0 := HRow.out.lb
      have hg0 : (W0.alloc (Obj.cells #[.slice none 0 0, .slice none 0 0] 26)).drew.heap.size ≤ g := hbg
      have hs2 := q2.size
      have hb0 : W0.heap.size + 1 ≤ b := by rw [← e1]; exact hb0
      have r1 := (((HRow.out.low (base' := W0.heap.size) (by show W0.heap.size ≤ (W0.alloc _).heap.size; simp)).q q2).far (k := W0.heap.size) (i := 0) (by omega) (by omega) (.slice A' ks.length c')).far (k := W0.heap.size) (i := 1) (by omega) (by omega) (.slice S' sl.length d')
      refine ⟨b, g, W0.heap.size, w1.heap.size, w2.heap.size, A', S', c', d', rfl, rfl, r1, own_two bx2 _ _, ((p2.setCell (p := ⟨W0.heap.size, 0, none⟩) (Nat.le_refl _) _).setCell (p := ⟨W0.heap.size, 1, none⟩) (Nat.le_refl _) _), fun W hW => HC.out W (fun p h1 h2 => (hW p h1 h2).trans ?_), ⟨by omega, by omega, Nat.le_refl _, by omega, by omega, hb1, hg1, by simp [World.setCell], .inl (by omega)⟩⟩
      have h1' : w1.heap.size ≤ p.block := h1
      exact (World.cell?_setCell_far _ _ _ _ (show W0.heap.size ≠ p.block by omega)).trans (World.cell?_setCell_far _ _ _ _ (show W0.heap.size ≠ p.block by omega))
  case rest =>
    obtain ⟨b, g, t, lo, hi, A', S', c', d', rfl, rfl, HRow, HT, HQ, HC, HF⟩ := hcut
    obtain ⟨f1, f2, f3, f4, f5, f6, f7, f8, f9⟩ := HF.out
    have HO2c := Lib.hid (HO2.out.q HQ.out)
    have HO3c := Lib.hid (HO3.out.q HQ.out)
    clear HO1 HO2 HO3 HR HK HS HF
    have hlen : (l.length : Int) ≠ 0 := by omega
    have CL := Lib.hid (lenR_any b l.length (l.length + 1) (some ⟨g, 0, none⟩) wc HRow.out.b0)
    have ct := takeR_any W0.heap.size b g (l.length + 1) l wc HRow.out h0
    rw [← HNl.out, ← HXl.out] at ct
    have CT := Lib.hid ct
    clear ct HXl HNl
    obtain ⟨x1, x2⟩ := x
    go_upto_region 5 with (first
      | (go_at_call 82; refine CL.out.mono ?_; rintro e w2 ⟨rfl, rfl⟩)
      | (go_at_call 30; refine CT.out.mono ?_; rintro e w3 ⟨rfl, r3, t3⟩; have HR3 := Lib.hid r3; have HT3 := Lib.hid t3; clear r3 t3))
    have hz0 := hz.out
    have q5 : Q w3 (w3.alloc (Obj.cells #[.int .i64 x1, .int .i64 x2] 30)) := (Q.refl w3).alloc _
    have HR5 := Lib.hid (HR3.out.q q5)
    have ht5 := (HT3.out.own HT.out f4 f5).q q5
    have h25 := (HT3.out.own HO2c.out (by omega) (by omega)).q q5
    have h35 := (HT3.out.own HO3c.out (by omega) (by omega)).q q5
    have hx5 := Ex.own_new8 w3 [.int .i64 x1, .int .i64 x2] 30
    have HTw5 := Lib.hid ((Two.of_q (b := b) (g := g) q5))
    have HTw := Lib.hid (HT3.out.trans HTw5.out)
    have hw3 : Hid (W0.heap.size ≤ w3.heap.size) := Nat.le_trans HQ.out.size HT3.out.size
    generalize w3.alloc (Obj.cells #[.int .i64 x1, .int .i64 x2] 30) = W5 at *
    have k0 := HR5.out.b0
    have k1 := (ht5.2 0 _ rfl).1
    have k2 := (ht5.2 1 _ rfl).1
    have k3 := (hx5.2 0 _ rfl).1
    have k4 := (hx5.2 1 _ rfl).1
    have a0 := (h25.2 0 _ rfl).1
    have a1 := (h25.2 1 _ rfl).1
    have a2 := (h25.2 2 _ rfl).1
    have b0 := (h25.2 0 _ rfl).2
    have b1 := (h25.2 1 _ rfl).2
    have b2 := (h25.2 2 _ rfl).2
    have c0 := (h35.2 0 _ rfl).1
    have c1 := (h35.2 1 _ rfl).1
    have d0 := (h35.2 0 _ rfl).2
    have d1 := (h35.2 1 _ rfl).2
    have H25 := Lib.hid h25
    have H35 := Lib.hid h35
    have n1 : w.heap.size + 1 ≠ w3.heap.size := by have := hw3.out; omega
    have n2 : w.heap.size + 1 ≠ t := by omega
    have n3 : w.heap.size + 1 ≠ b := by omega
    clear ht5 h25 h35 hx5 q5 HTw5 CL CT
    have n1' : w.heap.size + 1 + 1 ≠ w3.heap.size := by have := hw3.out; omega
    have n2' : w.heap.size + 1 + 1 ≠ t := by omega
    have n3' : w.heap.size + 1 + 1 ≠ b := by omega
    go_region_held3 (fun w' => w'.cell? ⟨b, 0, none⟩ = some (.slice (some ⟨g, 0, none⟩) nl.length (l.length + 1)) ∧ w'.cell? ⟨t, 0, none⟩ = some (.slice A' ks.length c') ∧ w'.cell? ⟨t, 1, none⟩ = some (.slice S' sl.length d') ∧ w'.cell? ⟨w3.heap.size, 0, none⟩ = some (.int .i64 x1) ∧ w'.cell? ⟨w3.heap.size, 1, none⟩ = some (.int .i64 x2))
      (first
        | go_keep
        | exact ⟨far3 k0 n3, far3 k1 n2, far3 k2 n2, far3 k3 n1, far3 k4 n1⟩
        | exact ⟨far2 (far3 k0 n3) n3', far2 (far3 k1 n2) n2', far2 (far3 k2 n2) n2', far2 (far3 k3 n1) n1', far2 (far3 k4 n1) n1'⟩)
      (first
        | (go_at_call 87; refine (allR_any b nl.length (l.length + 1) (some ⟨g, 0, none⟩) _ (by first | assumption | exact k0)).mono ?_; rintro e w6 ⟨rfl, rfl⟩))
    clear k0 k1 k2 k3 k4 a0 a1 a2 b0 b1 b2 c0 c1 d0 d1
    go_wp2_with fail
    have e2 := ((own_three H25.out (.slice (some ⟨g, 0, none⟩) nl.length (l.length + 1)) (.slice A' ks.length c') (.slice S' sl.length d')).far (b := w.heap.size + 1 + 1) (i := 0) (by omega) (.int .i64 x1)).far (b := w.heap.size + 1 + 1) (i := 1) (by omega) (.int .i64 x2)
    have e3 := own_two (((H35.out.far (b := w.heap.size + 1) (i := 0) (by omega) (.slice (some ⟨g, 0, none⟩) nl.length (l.length + 1))).far (b := w.heap.size + 1) (i := 1) (by omega) (.slice A' ks.length c')).far (b := w.heap.size + 1) (i := 2) (by omega) (.slice S' sl.length d')) (.int .i64 x1) (.int .i64 x2)
    have hrd := ((((HR5.out.cells.far (b := w.heap.size + 1) (i := 0) (by omega) (.slice (some ⟨g, 0, none⟩) nl.length (l.length + 1))).far (b := w.heap.size + 1) (i := 1) (by omega) (.slice A' ks.length c')).far (b := w.heap.size + 1) (i := 2) (by omega) (.slice S' sl.length d')).far (b := w.heap.size + 1 + 1) (i := 0) (by omega) (.int .i64 x1)).far (b := w.heap.size + 1 + 1) (i := 1) (by omega) (.int .i64 x2)
    have hq5 : Q w W5 := (HTw.out).below (HQ0.out.trans HQ.out) (by omega) (by omega)
    have hqf := ((((hq5.setCell (p := ⟨w.heap.size + 1, 0, none⟩) (by show w.heap.size ≤ w.heap.size + 1; omega) (.slice (some ⟨g, 0, none⟩) nl.length (l.length + 1))).setCell (p := ⟨w.heap.size + 1, 1, none⟩) (by show w.heap.size ≤ w.heap.size + 1; omega) (.slice A' ks.length c')).setCell (p := ⟨w.heap.size + 1, 2, none⟩) (by show w.heap.size ≤ w.heap.size + 1; omega) (.slice S' sl.length d')).setCell (p := ⟨w.heap.size + 1 + 1, 0, none⟩) (by show w.heap.size ≤ w.heap.size + 1 + 1; omega) (.int .i64 x1)).setCell (p := ⟨w.heap.size + 1 + 1, 1, none⟩) (by show w.heap.size ≤ w.heap.size + 1 + 1; omega) (.int .i64 x2)
    have hsz : hi ≤ (((((W5.setCell ⟨w.heap.size + 1, 0, none⟩ (.slice (some ⟨g, 0, none⟩) nl.length (l.length + 1))).setCell ⟨w.heap.size + 1, 1, none⟩ (.slice A' ks.length c')).setCell ⟨w.heap.size + 1, 2, none⟩ (.slice S' sl.length d')).setCell ⟨w.heap.size + 1 + 1, 0, none⟩ (.int .i64 x1)).setCell ⟨w.heap.size + 1 + 1, 1, none⟩ (.int .i64 x2)).heap.size := by
      have := HTw.out.size
      simp only [World.size_setCell]
      omega
    have hag : ∀ p : Addr, lo ≤ p.block → p.block < hi → (((((W5.setCell ⟨w.heap.size + 1, 0, none⟩ (.slice (some ⟨g, 0, none⟩) nl.length (l.length + 1))).setCell ⟨w.heap.size + 1, 1, none⟩ (.slice A' ks.length c')).setCell ⟨w.heap.size + 1, 2, none⟩ (.slice S' sl.length d')).setCell ⟨w.heap.size + 1 + 1, 0, none⟩ (.int .i64 x1)).setCell ⟨w.heap.size + 1 + 1, 1, none⟩ (.int .i64 x2)).cell? p = w2.cell? p := fun p h1 h2 => by
      have a1 : W5.cell? p = w2.cell? p := HTw.out.cell (by omega) (by omega) (by omega)
      refine Eq.trans ?_ a1
      exact (World.cell?_setCell_far _ _ _ _ (show w.heap.size + 1 + 1 ≠ p.block by omega)).trans ((World.cell?_setCell_far _ _ _ _ (show w.heap.size + 1 + 1 ≠ p.block by omega)).trans ((World.cell?_setCell_far _ _ _ _ (show w.heap.size + 1 ≠ p.block by omega)).trans ((World.cell?_setCell_far _ _ _ _ (show w.heap.size + 1 ≠ p.block by omega)).trans (World.cell?_setCell_far _ _ _ _ (show w.heap.size + 1 ≠ p.block by omega)))))
    generalize ((((W5.setCell ⟨w.heap.size + 1, 0, none⟩ (.slice (some ⟨g, 0, none⟩) nl.length (l.length + 1))).setCell ⟨w.heap.size + 1, 1, none⟩ (.slice A' ks.length c')).setCell ⟨w.heap.size + 1, 2, none⟩ (.slice S' sl.length d')).setCell ⟨w.heap.size + 1 + 1, 0, none⟩ (.int .i64 x1)).setCell ⟨w.heap.size + 1 + 1, 1, none⟩ (.int .i64 x2) = WF at *
    have e2d := e2.q ((Q.refl WF).drew)
    have e3d := e3.q ((Q.refl WF).drew)
    have hOwn := hrd.q ((Q.refl WF).drew)
    have hagd : ∀ p : Addr, lo ≤ p.block → p.block < hi → WF.drew.cell? p = w2.cell? p := fun p h1 h2 => hag p h1 h2
    have hqd := hqf.drew
    have hszd : hi ≤ WF.drew.heap.size := hsz
    clear hrd hqf hsz e2 e3 hag
    generalize WF.drew = WD at *
    have y0 := (e2d.2 0 _ rfl).1
    have y1 := (e2d.2 1 _ rfl).1
    have y2 := (e2d.2 2 _ rfl).1
    have y3 := (e3d.2 0 _ rfl).1
    have y4 := (e3d.2 1 _ rfl).1
    have hfin : QFr w WD (some ⟨g, 0, none⟩) A' S' nl.length (l.length + 1) ks.length c' sl.length d' nl ks sl := fun W hs hW => by
      have hK := HC.out W (fun p h1 h2 => (hW p (by omega) (by omega)).trans (hagd p h1 h2))
      exact ⟨rfl, rfl, rfl, by have := HLn.out; omega, own_frC hOwn (by omega) hs hW, hK.1.more (by omega), hK.2.more (by omega)⟩
    refine bodyPost_ret (v := .tuple #[.agg #[.slice (some ⟨g, 0, none⟩) nl.length (l.length + 1), .slice A' ks.length c', .slice S' sl.length d'], .agg #[.int .i64 x1, .int .i64 x2], .bool true]) (by simp [results, Try.f12, go_sem, y0, y1, y2, y3, y4]) rfl ?_
    exact ⟨_, _, _, _, _, _, rfl, hfin, hqd⟩
end Go.Proofs.Ytjgbheidkjgncaa.Wk
