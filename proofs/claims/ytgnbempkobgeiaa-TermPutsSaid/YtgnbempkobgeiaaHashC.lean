/-
  Contract of hash.seek: at which slot a key's way ends, and the place of the key that is the same.
-/
import Derived.Test.YtgnbempkobgeiaaHashB
import Derived.Laws.EntriesVeiled
import Derived.Deep.RegionHeld
namespace Go.Proofs.Ytgnbempkobgeiaa.Hs
open Go.RowKit Go.Shelf Kit

attribute [local go_sem] Oper.semAt_some

def stepOf (p : Int → Bool) (x : Nat × Int) : Option (Int × Int) := if x.2 == 0 then some ((x.1 : Int), -1) else if p (wrap64 (x.2 - 1)) then some ((x.1 : Int), wrap64 (x.2 - 1)) else none
def seekL (p : Int → Bool) : List (Nat × Int) → Int × Int
  | [] => (-1, -1)
  | x :: l => (stepOf p x).getD (seekL p l)
def seekI (p : Int → Bool) (sl : List Int) (h : Nat) : Int × Int := seekL p (visits sl h sl.length)
theorem seekL_none {p : Int → Bool} : ∀ {l : List (Nat × Int)}, (∀ x ∈ l, stepOf p x = none) → seekL p l = (-1, -1)
  | [], _ => rfl
  | x :: l, h => by rw [seekL, h x (List.mem_cons_self ..), Option.getD_none]; exact seekL_none fun y hy => h y (List.mem_cons_of_mem _ hy)
theorem seekL_some {p : Int → Bool} {x : Nat × Int} {r : Int × Int} {m : List (Nat × Int)} (hx : stepOf p x = some r) : ∀ {l : List (Nat × Int)}, (∀ x ∈ l, stepOf p x = none) → seekL p (l ++ x :: m) = r
  | [], _ => by rw [List.nil_append, seekL, hx, Option.getD_some]
  | y :: l, h => by rw [List.cons_append, seekL, h y (List.mem_cons_self ..), Option.getD_none]; exact seekL_some hx fun z hz => h z (List.mem_cons_of_mem _ hz)
theorem visits_split (sl : List Int) (h k m : Nat) : ∃ t, visits sl h (k + m) = visits sl h k ++ t := by
  induction m with
  | zero => exact ⟨[], by simp⟩
  | succ m ih =>
    obtain ⟨t, e⟩ := ih
    exact ⟨t ++ [visit sl h (k + m)], by rw [← Nat.add_assoc, visits_succ, e, List.append_assoc]⟩
theorem seekI_stop {p : Int → Bool} {sl : List Int} {h k : Nat} {ini : List (Nat × Int)} {x : Nat × Int} {r : Int × Int} (hk : k ≤ sl.length) (e : ini ++ [x] = visits sl h k) (hi : ∀ y ∈ ini, stepOf p y = none) (hx : stepOf p x = some r) : seekI p sl h = r := by
  obtain ⟨t, ht⟩ := visits_split sl h k (sl.length - k)
  rw [show k + (sl.length - k) = sl.length by omega, ← e, List.append_assoc] at ht
  unfold seekI
  rw [ht]
  exact seekL_some hx hi

theorem five (w : World) (a b c d e : Value) (t1 t2 t3 t4 t5 : TypeId) :
    Boxed (((((w.alloc (.cells #[a] t1)).alloc (.cells #[b] t2)).alloc (.cells #[c] t3)).alloc (.cells #[d] t4)).alloc (.cells #[e] t5)) w.heap.size t1 a ∧
    Boxed (((((w.alloc (.cells #[a] t1)).alloc (.cells #[b] t2)).alloc (.cells #[c] t3)).alloc (.cells #[d] t4)).alloc (.cells #[e] t5)) (w.heap.size + 1) t2 b ∧
    Boxed (((((w.alloc (.cells #[a] t1)).alloc (.cells #[b] t2)).alloc (.cells #[c] t3)).alloc (.cells #[d] t4)).alloc (.cells #[e] t5)) (w.heap.size + 1 + 1) t3 c ∧
    Boxed (((((w.alloc (.cells #[a] t1)).alloc (.cells #[b] t2)).alloc (.cells #[c] t3)).alloc (.cells #[d] t4)).alloc (.cells #[e] t5)) (w.heap.size + 1 + 1 + 1) t4 d ∧
    Boxed (((((w.alloc (.cells #[a] t1)).alloc (.cells #[b] t2)).alloc (.cells #[c] t3)).alloc (.cells #[d] t4)).alloc (.cells #[e] t5)) (w.heap.size + 1 + 1 + 1 + 1) t5 e ∧
    Q w (((((w.alloc (.cells #[a] t1)).alloc (.cells #[b] t2)).alloc (.cells #[c] t3)).alloc (.cells #[d] t4)).alloc (.cells #[e] t5)) ∧
    (((((w.alloc (.cells #[a] t1)).alloc (.cells #[b] t2)).alloc (.cells #[c] t3)).alloc (.cells #[d] t4)).alloc (.cells #[e] t5)).heap.size = w.heap.size + 5 := by
  have h2 := Boxed.new (w.alloc (.cells #[a] t1)) t2 b
  have h3 := Boxed.new ((w.alloc (.cells #[a] t1)).alloc (.cells #[b] t2)) t3 c
  have h4 := Boxed.new (((w.alloc (.cells #[a] t1)).alloc (.cells #[b] t2)).alloc (.cells #[c] t3)) t4 d
  have h5 := Boxed.new ((((w.alloc (.cells #[a] t1)).alloc (.cells #[b] t2)).alloc (.cells #[c] t3)).alloc (.cells #[d] t4)) t5 e
  simp only [World.size_alloc] at h2 h3 h4 h5
  exact ⟨((((Boxed.new w t1 a).alloc _).alloc _).alloc _).alloc _, (((h2.alloc _).alloc _).alloc _), (h3.alloc _).alloc _, h4.alloc _, h5, (((((Q.refl w).alloc _).alloc _).alloc _).alloc _).alloc _, by simp⟩

theorem two_set {W : World} {B : Nat} {a b u v : Value} (c1 : W.cell? ⟨B + 1, 0, none⟩ = some a) (c2 : W.cell? ⟨B + 1 + 1, 0, none⟩ = some b) :
    ((W.setCell ⟨B + 1, 0, none⟩ u).setCell ⟨B + 1 + 1, 0, none⟩ v).cell? ⟨B + 1, 0, none⟩ = some u ∧ ((W.setCell ⟨B + 1, 0, none⟩ u).setCell ⟨B + 1 + 1, 0, none⟩ v).cell? ⟨B + 1 + 1, 0, none⟩ = some v ∧
    KeepsOthers W ((W.setCell ⟨B + 1, 0, none⟩ u).setCell ⟨B + 1 + 1, 0, none⟩ v) ∧ ∀ {n : Nat} {w : World}, n ≤ B → Below n w W → Below n w ((W.setCell ⟨B + 1, 0, none⟩ u).setCell ⟨B + 1 + 1, 0, none⟩ v) := by
  refine ⟨?_, ?_, (KeepsOthers.setCell _ _ _).trans (KeepsOthers.setCell _ _ _), fun hn h => (h.setCell (p := ⟨B + 1, 0, none⟩) (by show _ ≤ B + 1; omega) _).setCell (p := ⟨B + 1 + 1, 0, none⟩) (by show _ ≤ B + 1 + 1; omega) _⟩
  · exact (World.cell?_setCell_far _ _ _ _ (by simp)).trans (World.cell?_setCell_same' _ _ _ (by rw [c1]; rfl))
  · exact World.cell?_setCell_same' _ _ _ (by rw [World.cell?_setCell_far _ _ _ _ (by simp), c2]; rfl)

theorem below_drewN_ (W : World) (d n : Nat) : Below n W (W.drewN d) := ⟨rfl, rfl, rfl, Nat.le_refl _, fun _ _ => rfl⟩

/-- what the loop's own cells hold -/
def SeekI (w : World) (fv : Value) (p : Int → Bool) (pre : List (Nat × Int)) (W : World) : Prop :=
  (∀ x ∈ pre, stepOf p x = none) ∧ W.cell? ⟨w.heap.size, 0, none⟩ = some fv ∧ (W.cell? ⟨w.heap.size + 1, 0, none⟩ = some (.int .i64 0) ∧ W.frozen? ⟨w.heap.size + 1, 0, none⟩ = false) ∧ (W.cell? ⟨w.heap.size + 1 + 1, 0, none⟩ = some (.int .i64 0) ∧ W.frozen? ⟨w.heap.size + 1 + 1, 0, none⟩ = false)
theorem seekI_own (w : World) (fv : Value) (p : Int → Bool) : Own (SeekI w fv p) := fun _ _ _ _ hs hg hr =>
  ⟨hs.1, cell_kept hs.2.1 hg hr, ⟨cell_kept hs.2.2.1.1 hg hr, (frozen_kept hs.2.2.1.1 hg hr).trans hs.2.2.1.2⟩, cell_kept hs.2.2.2.1 hg hr, (frozen_kept hs.2.2.2.1 hg hr).trans hs.2.2.2.2⟩
/-- .. when a round has left -/
def SeekX (w : World) (p : Int → Bool) (c : Code) (pre : List (Nat × Int)) (W : World) : Prop :=
  c = .ret ∧ ∃ ini x r, ini ++ [x] = pre ∧ (∀ y ∈ ini, stepOf p y = none) ∧ stepOf p x = some r ∧ W.cell? ⟨w.heap.size + 1, 0, none⟩ = some (.int .i64 r.1) ∧ W.cell? ⟨w.heap.size + 1 + 1, 0, none⟩ = some (.int .i64 r.2)
theorem seekX_own (w : World) (p : Int → Bool) (c : Code) : Own (SeekX w p c) := fun _ _ _ _ hs hg hr => by
  obtain ⟨hc, ini, x, r, e1, e2, e3, e4, e5⟩ := hs
  exact ⟨hc, ini, x, r, e1, e2, e3, cell_kept e4 hg hr, cell_kept e5 hg hr⟩
theorem snoc_none {p : Int → Bool} {pre : List (Nat × Int)} {x : Nat × Int} (h : ∀ y ∈ pre, stepOf p y = none) (hx : stepOf p x = none) : ∀ y ∈ pre ++ [x], stepOf p y = none := fun y hy =>
  (List.mem_append.1 hy).elim (h y) fun e => by rw [List.mem_singleton.1 e]; exact hx

set_option maxRecDepth 100000 in
set_option maxHeartbeats 2000000 in
theorem seek_same (A : Option Addr) (n c : Nat) (sl : List Int) (h : Nat) (p : Int → Bool) (Bk Be : Nat) (w : World) (hn : n = sl.length) (hr : Ints w w.heap.size A sl) (hh : h < 4294967296) (hl : sl.length ≤ 100000000)
    (hS : ∀ x W, Q w W → Calls Try.prog 65 #[.int .i64 x, .pointer (some ⟨Bk, 0, none⟩), .pointer (some ⟨Be, 0, none⟩)] W fun e W' => e = .returned (.bool (p x)) ∧ ∃ d, W' = W.drewN d) :
    Calls Try.prog 54 #[.slice A n c, .int .u32 (h : Int), .func (.func 65) #[] #[.pointer (some ⟨Bk, 0, none⟩), .pointer (some ⟨Be, 0, none⟩)]] w fun e w' => e = .returned (.tuple #[.int .i64 (seekI p sl h).1, .int .i64 (seekI p sl h).2]) ∧ Q w w' := by
  subst hn
  refine (callsIn_wide (n := 5)).1 ?_
  refine callsIn_of_wp_marks Try.func54 rfl trivial ?_ rfl
  simp only [Try.ntmps54, List.size_toArray, List.length_cons, List.length_nil, Nat.reduceAdd, Nat.reduceSub, Array.replicate_succ, Array.replicate_zero, List.push_toArray, List.append_toArray, List.nil_append, List.cons_append]
  gi_wp2_with (refine ⟨trivial, ?_⟩; gi_at_call 64; refine (round_in _ _ _ _ _ _).mono ?_; rintro e w' ⟨rfl, rfl⟩)
  have h5 := five w (.func (.func 65) #[] #[.pointer (some ⟨Bk, 0, none⟩), .pointer (some ⟨Be, 0, none⟩)]) (.int .i64 0) (.int .i64 0) (.slice A sl.length c) (.int .u32 (h : Int)) 76 3 3 24 74
  revert h5
  generalize (((((w.alloc (.cells #[Value.func (.func 65) #[] #[.pointer (some ⟨Bk, 0, none⟩), .pointer (some ⟨Be, 0, none⟩)]] 76)).alloc (.cells #[Value.int .i64 0] 3)).alloc (.cells #[Value.int .i64 0] 3)).alloc (.cells #[Value.slice A sl.length c] 24)).alloc (.cells #[Value.int .u32 (h : Int)] 74)) = W0
  rintro ⟨bF, b1, b2, bL, bH, q0, hz⟩
  refine wpIn_rangeFunc_ownG (w := W0) rfl (by omega) (gf := 71) (lb := #[.pointer (some ⟨w.heap.size + 1 + 1 + 1, 0, none⟩), .pointer (some ⟨w.heap.size + 1 + 1 + 1 + 1, 0, none⟩)]) rfl trivial (enters_of Try.func71 (by kernel_rfl) rfl)
    (round_stops 4 (by omega) (w.heap.size + 1 + 1 + 1) (w.heap.size + 1 + 1 + 1 + 1) (w.heap.size + 5) A c sl h hh hl W0 (by omega) (by omega) (by omega) bL.cell bH.cell ((hr.q (Nat.le_refl _) q0).more (by omega))) belowK_t (belowK_b (by omega)) (Below.refl _ _) (fun _ => rfl)
    (fun pre W => SeekI w (.func (.func 65) #[] #[.pointer (some ⟨Bk, 0, none⟩), .pointer (some ⟨Be, 0, none⟩)]) p pre W ∧ Below w.heap.size w W)
    (fun c pre W => SeekX w p c pre W ∧ Below w.heap.size w W)
    (OwnFrom.and (Own.from (seekI_own w _ p) _) (ownFrom_below (Nat.le_refl _) (by omega)))
    (fun c => OwnFrom.and (Own.from (seekX_own w p c) _) (ownFrom_below (Nat.le_refl _) (by omega)))
    ⟨⟨by simp, bF.cell, ⟨b1.cell, b1.frozen⟩, b2.cell, b2.frozen⟩, q0⟩
    (fun x => { tmps := #[.slice A sl.length c, .int .u32 (h : Int), .func (.func 65) #[] #[.pointer (some ⟨Bk, 0, none⟩), .pointer (some ⟨Be, 0, none⟩)], undef, undef, .pointer (some ⟨w.heap.size, 0, none⟩), .pointer (some ⟨w.heap.size + 1, 0, none⟩), .pointer (some ⟨w.heap.size + 1 + 1, 0, none⟩), .int .i64 (x.1 : Int), .int .i64 x.2, .slice A sl.length c, .int .u32 (h : Int),
      .func (.func 71) #[] #[.pointer (some ⟨w.heap.size + 1 + 1 + 1, 0, none⟩), .pointer (some ⟨w.heap.size + 1 + 1 + 1 + 1, 0, none⟩)], .int .i64 (x.1 : Int), .int .i64 x.2, undef, undef, undef, undef, undef, undef, undef, undef, undef, undef], defers := [] }) ?assign ?body ?done ?stop
  case assign =>
    intro l x W K hK
    gi_wp2
    exact hK
  case body =>
    rintro l pre x W ⟨⟨hp, cF, ⟨c1, f1⟩, c2, f2⟩, hB⟩ _
    clear bF b1 b2 bL bH
    cases hx : (x.2 == 0)
    · cases hpx : p (wrap64 (x.2 - 1))
      · have HT : Hid (stepOf p x = none) := by simp [stepOf, hx, hpx, Hid]
        gi_wp2_with (refine ⟨trivial, ?_⟩; gi_at_call 65; refine (CallsIn.inRound l (callsIn_wide.2 (hS _ _ hB))).mono ?_; rintro e W' ⟨rfl, d, rfl⟩)
        exact ⟨⟨Nat.le_refl _, fun _ _ _ h _ => h⟩, below_drewN_ W d _, ⟨snoc_none hp HT.out, cF, ⟨c1, f1⟩, c2, f2⟩, Q.drewN hB d⟩
      · have HT : Hid (stepOf p x = some ((x.1 : Int), wrap64 (x.2 - 1))) := by simp [stepOf, hx, hpx, Hid]
        gi_wp2_with (refine ⟨trivial, ?_⟩; gi_at_call 65; refine (CallsIn.inRound l (callsIn_wide.2 (hS _ _ hB))).mono ?_; rintro e W' ⟨rfl, d, rfl⟩)
        obtain ⟨y1, y2, ko, hb⟩ := two_set (W := W.drewN d) (u := .int .i64 (x.1 : Int)) (v := .int .i64 (wrap64 (x.2 - 1))) c1 c2
        have k0 : KeepsOthers W (W.drewN d) := ⟨Nat.le_refl _, fun _ _ h _ => h⟩
        exact ⟨(k0.trans ko).from _, ⟨rfl, pre, x, _, rfl, hp, HT.out, y1, y2⟩, hb (Nat.le_refl _) (Q.drewN hB d)⟩
    · have HT : Hid (stepOf p x = some ((x.1 : Int), -1)) := by simp [stepOf, hx, Hid]
      gi_wp2
      obtain ⟨y1, y2, ko, hb⟩ := two_set (W := W) (u := .int .i64 (x.1 : Int)) (v := .int .i64 (-1)) c1 c2
      exact ⟨ko.from _, ⟨rfl, pre, x, _, rfl, hp, HT.out, y1, y2⟩, hb (Nat.le_refl _) hB⟩
  case done =>
    rintro D ys W hD rfl ⟨⟨hne, cF, ⟨c1, f1⟩, c2, f2⟩, hB⟩ hK
    gi_wp2
    obtain ⟨y1, y2, ko, hb⟩ := two_set (W := W) (u := .int .i64 (-1)) (v := .int .i64 (-1)) c1 c2
    have hK' := ko.same D _ hK rfl
    refine ⟨by simp, .inl ⟨_, _, rfl, run_takeDeferred hK', ?_⟩⟩
    have c1' := cell_kept y1 (grownBy_putObj' _ D (.deferred none)) (fun r e => by cases e; exact ⟨_, hK', rfl⟩)
    have c2' := cell_kept y2 (grownBy_putObj' _ D (.deferred none)) (fun r e => by cases e; exact ⟨_, hK', rfl⟩)
    have hq : seekI p sl h = (-1, -1) := seekL_none hne
    refine ⟨.tuple #[.int .i64 (-1), .int .i64 (-1)], ?_, by rw [hq], (hb (Nat.le_refl _) hB).trans (belowK_b (w := w) (Nat.le_refl _) _ D _ _ (by omega) hK' rfl rfl)⟩
    simp [results, Try.f54, go_sem, c1', c2']
  case stop =>
    rintro D c pre W hD ⟨k, hk, rfl⟩ ⟨⟨rfl, ini, x, r, e1, e2, e3, c1, c2⟩, hB⟩ hK
    gi_wp2
    refine ⟨by simp, .inl ⟨_, _, rfl, run_takeDeferred hK, ?_⟩⟩
    have c1' := cell_kept c1 (grownBy_putObj' _ D (.deferred none)) (fun r e => by cases e; exact ⟨_, hK, rfl⟩)
    have c2' := cell_kept c2 (grownBy_putObj' _ D (.deferred none)) (fun r e => by cases e; exact ⟨_, hK, rfl⟩)
    have hq := seekI_stop hk e1 e2 e3
    refine ⟨.tuple #[.int .i64 r.1, .int .i64 r.2], ?_, by rw [hq], hB.trans (belowK_b (w := w) (Nat.le_refl _) W D _ _ (by omega) hK rfl rfl)⟩
    simp [results, Try.f54, go_sem, c1', c2']

set_option maxRecDepth 100000 in
set_option maxHeartbeats 2000000 in
theorem seek_never (A : Option Addr) (n c : Nat) (sl : List Int) (h : Nat) (p : Int → Bool) (w : World) (hn : n = sl.length) (hr : Ints w w.heap.size A sl) (hh : h < 4294967296) (hl : sl.length ≤ 100000000)
    (hS : ∀ x W, Q w W → Calls Try.prog 61 #[.int .i64 x] W fun e W' => e = .returned (.bool (p x)) ∧ ∃ d, W' = W.drewN d) :
    Calls Try.prog 54 #[.slice A n c, .int .u32 (h : Int), .func (.func 61) #[] #[]] w fun e w' => e = .returned (.tuple #[.int .i64 (seekI p sl h).1, .int .i64 (seekI p sl h).2]) ∧ Q w w' := by
  subst hn
  refine (callsIn_wide (n := 5)).1 ?_
  refine callsIn_of_wp_marks Try.func54 rfl trivial ?_ rfl
  simp only [Try.ntmps54, List.size_toArray, List.length_cons, List.length_nil, Nat.reduceAdd, Nat.reduceSub, Array.replicate_succ, Array.replicate_zero, List.push_toArray, List.append_toArray, List.nil_append, List.cons_append]
  gi_wp2_with (refine ⟨trivial, ?_⟩; gi_at_call 64; refine (round_in _ _ _ _ _ _).mono ?_; rintro e w' ⟨rfl, rfl⟩)
  have h5 := five w (.func (.func 61) #[] #[]) (.int .i64 0) (.int .i64 0) (.slice A sl.length c) (.int .u32 (h : Int)) 76 3 3 24 74
  revert h5
  generalize (((((w.alloc (.cells #[Value.func (.func 61) #[] #[]] 76)).alloc (.cells #[Value.int .i64 0] 3)).alloc (.cells #[Value.int .i64 0] 3)).alloc (.cells #[Value.slice A sl.length c] 24)).alloc (.cells #[Value.int .u32 (h : Int)] 74)) = W0
  rintro ⟨bF, b1, b2, bL, bH, q0, hz⟩
  refine wpIn_rangeFunc_ownG (w := W0) rfl (by omega) (gf := 71) (lb := #[.pointer (some ⟨w.heap.size + 1 + 1 + 1, 0, none⟩), .pointer (some ⟨w.heap.size + 1 + 1 + 1 + 1, 0, none⟩)]) rfl trivial (enters_of Try.func71 (by kernel_rfl) rfl)
    (round_stops 4 (by omega) (w.heap.size + 1 + 1 + 1) (w.heap.size + 1 + 1 + 1 + 1) (w.heap.size + 5) A c sl h hh hl W0 (by omega) (by omega) (by omega) bL.cell bH.cell ((hr.q (Nat.le_refl _) q0).more (by omega))) belowK_t (belowK_b (by omega)) (Below.refl _ _) (fun _ => rfl)
    (fun pre W => SeekI w (.func (.func 61) #[] #[]) p pre W ∧ Below w.heap.size w W)
    (fun c pre W => SeekX w p c pre W ∧ Below w.heap.size w W)
    (OwnFrom.and (Own.from (seekI_own w _ p) _) (ownFrom_below (Nat.le_refl _) (by omega)))
    (fun c => OwnFrom.and (Own.from (seekX_own w p c) _) (ownFrom_below (Nat.le_refl _) (by omega)))
    ⟨⟨by simp, bF.cell, ⟨b1.cell, b1.frozen⟩, b2.cell, b2.frozen⟩, q0⟩
    (fun x => { tmps := #[.slice A sl.length c, .int .u32 (h : Int), .func (.func 61) #[] #[], undef, undef, .pointer (some ⟨w.heap.size, 0, none⟩), .pointer (some ⟨w.heap.size + 1, 0, none⟩), .pointer (some ⟨w.heap.size + 1 + 1, 0, none⟩), .int .i64 (x.1 : Int), .int .i64 x.2, .slice A sl.length c, .int .u32 (h : Int),
      .func (.func 71) #[] #[.pointer (some ⟨w.heap.size + 1 + 1 + 1, 0, none⟩), .pointer (some ⟨w.heap.size + 1 + 1 + 1 + 1, 0, none⟩)], .int .i64 (x.1 : Int), .int .i64 x.2, undef, undef, undef, undef, undef, undef, undef, undef, undef, undef], defers := [] }) ?assign ?body ?done ?stop
  case assign =>
    intro l x W K hK
    gi_wp2
    exact hK
  case body =>
    rintro l pre x W ⟨⟨hp, cF, ⟨c1, f1⟩, c2, f2⟩, hB⟩ _
    clear bF b1 b2 bL bH
    cases hx : (x.2 == 0)
    · cases hpx : p (wrap64 (x.2 - 1))
      · have HT : Hid (stepOf p x = none) := by simp [stepOf, hx, hpx, Hid]
        gi_wp2_with (refine ⟨trivial, ?_⟩; gi_at_call 61; refine (CallsIn.inRound l (callsIn_wide.2 (hS _ _ hB))).mono ?_; rintro e W' ⟨rfl, d, rfl⟩)
        exact ⟨⟨Nat.le_refl _, fun _ _ _ h _ => h⟩, below_drewN_ W d _, ⟨snoc_none hp HT.out, cF, ⟨c1, f1⟩, c2, f2⟩, Q.drewN hB d⟩
      · have HT : Hid (stepOf p x = some ((x.1 : Int), wrap64 (x.2 - 1))) := by simp [stepOf, hx, hpx, Hid]
        gi_wp2_with (refine ⟨trivial, ?_⟩; gi_at_call 61; refine (CallsIn.inRound l (callsIn_wide.2 (hS _ _ hB))).mono ?_; rintro e W' ⟨rfl, d, rfl⟩)
        obtain ⟨y1, y2, ko, hb⟩ := two_set (W := W.drewN d) (u := .int .i64 (x.1 : Int)) (v := .int .i64 (wrap64 (x.2 - 1))) c1 c2
        have k0 : KeepsOthers W (W.drewN d) := ⟨Nat.le_refl _, fun _ _ h _ => h⟩
        exact ⟨(k0.trans ko).from _, ⟨rfl, pre, x, _, rfl, hp, HT.out, y1, y2⟩, hb (Nat.le_refl _) (Q.drewN hB d)⟩
    · have HT : Hid (stepOf p x = some ((x.1 : Int), -1)) := by simp [stepOf, hx, Hid]
      gi_wp2
      obtain ⟨y1, y2, ko, hb⟩ := two_set (W := W) (u := .int .i64 (x.1 : Int)) (v := .int .i64 (-1)) c1 c2
      exact ⟨ko.from _, ⟨rfl, pre, x, _, rfl, hp, HT.out, y1, y2⟩, hb (Nat.le_refl _) hB⟩
  case done =>
    rintro D ys W hD rfl ⟨⟨hne, cF, ⟨c1, f1⟩, c2, f2⟩, hB⟩ hK
    gi_wp2
    obtain ⟨y1, y2, ko, hb⟩ := two_set (W := W) (u := .int .i64 (-1)) (v := .int .i64 (-1)) c1 c2
    have hK' := ko.same D _ hK rfl
    refine ⟨by simp, .inl ⟨_, _, rfl, run_takeDeferred hK', ?_⟩⟩
    have c1' := cell_kept y1 (grownBy_putObj' _ D (.deferred none)) (fun r e => by cases e; exact ⟨_, hK', rfl⟩)
    have c2' := cell_kept y2 (grownBy_putObj' _ D (.deferred none)) (fun r e => by cases e; exact ⟨_, hK', rfl⟩)
    have hq : seekI p sl h = (-1, -1) := seekL_none hne
    refine ⟨.tuple #[.int .i64 (-1), .int .i64 (-1)], ?_, by rw [hq], (hb (Nat.le_refl _) hB).trans (belowK_b (w := w) (Nat.le_refl _) _ D _ _ (by omega) hK' rfl rfl)⟩
    simp [results, Try.f54, go_sem, c1', c2']
  case stop =>
    rintro D c pre W hD ⟨k, hk, rfl⟩ ⟨⟨rfl, ini, x, r, e1, e2, e3, c1, c2⟩, hB⟩ hK
    gi_wp2
    refine ⟨by simp, .inl ⟨_, _, rfl, run_takeDeferred hK, ?_⟩⟩
    have c1' := cell_kept c1 (grownBy_putObj' _ D (.deferred none)) (fun r e => by cases e; exact ⟨_, hK, rfl⟩)
    have c2' := cell_kept c2 (grownBy_putObj' _ D (.deferred none)) (fun r e => by cases e; exact ⟨_, hK, rfl⟩)
    have hq := seekI_stop hk e1 e2 e3
    refine ⟨.tuple #[.int .i64 r.1, .int .i64 r.2], ?_, by rw [hq], hB.trans (belowK_b (w := w) (Nat.le_refl _) W D _ _ (by omega) hK rfl rfl)⟩
    simp [results, Try.f54, go_sem, c1', c2']
end Go.Proofs.Ytgnbempkobgeiaa.Hs
