/-
  Contract of the document's in; plain facts on rows of numbers that are not the same.
-/
import Derived.Test.YtgnbempkobgeiaaTermXF
namespace Go.Proofs.Ytgnbempkobgeiaa.Tm
open Go.RowKit Kit Hs

def inL (l : List Int) (x : Int) : Bool := l.any fun y => y == x
theorem inL_iff (l : List Int) (x : Int) : inL l x = true ↔ x ∈ l := by
  unfold inL
  rw [List.any_eq_true]
  constructor
  · rintro ⟨y, h, e⟩
    rw [beq_iff_eq] at e
    exact e ▸ h
  · intro h; exact ⟨x, h, by simp⟩
theorem inL_at (l : List Int) (x : Int) (k : Nat) (h : k < l.length) : inL (l.drop k) x = ((l[k] == x) || inL (l.drop (k + 1)) x) := by
  rw [List.drop_eq_getElem_cons h]; rfl
theorem inL_end (l : List Int) (x : Int) (k : Nat) (h : l.length ≤ k) : inL (l.drop k) x = false := by
  rw [List.drop_eq_nil_of_le h]; rfl

set_option maxHeartbeats 400000 in
theorem refIn_any (A : Option Addr) (n c : Nat) (l : List Int) (x : Int) (w : World) (hn : n = l.length) (hr : Ints w w.heap.size A l) (hl : l.length ≤ maxLen) :
    Calls Try.prog 39 #[.slice A n c, .int .i64 x] w fun e w' => e = .returned (.bool (inL l x)) ∧ w = w' := by
  subst hn
  unfold maxLen at hl
  go_enter Try.func39, Try.ntmps39
  go_wp2_with fail
  go_loopw [5] (fun i wr => ∃ k : Nat, k ≤ l.length ∧ i = .int .i64 k ∧ Hid (inL l x = inL (l.drop k) x) ∧ w = wr) (fun i _ => l.length - (intOf i).toNat)
  case atStart => exact ⟨0, Nat.zero_le _, rfl, Lib.hid (by simp), rfl⟩
  case round =>
    obtain ⟨k, hk, rfl, HF, rfl⟩ := hrel
    by_cases hlt : k < l.length
    · obtain ⟨ad, rfl, hb, c0⟩ := hr.at_ hlt
      have HS := Lib.hid (inL_at l x k hlt)
      clear hr
      cases he : (l[k] == x)
      · have HS' : Hid (inL (l.drop k) x = inL (l.drop (k + 1)) x) := by have := HS.out; rw [he] at this; exact this
        go_wp2_with fail
        go_roundw
        case rel => exact ⟨k + 1, by omega, by go_num, Lib.hid (HF.out.trans HS'.out), trivial⟩
        case measure => simp [intOf]; omega
      · have HS' : Hid (inL (l.drop k) x = true) := by have := HS.out; rw [he] at this; exact this
        go_wp2_with fail
        go_ret
        exact ⟨by rw [HF.out, HS'.out]; rfl, rfl⟩
    · have HS := Lib.hid (inL_end l x k (by omega))
      go_wp2_with fail
      go_ret
      exact ⟨by rw [HF.out, HS.out]; rfl, rfl⟩

/-- numbers below n that are not the same are at most n -/
theorem few_of : ∀ (n : Nat) (l : List Nat), l.Nodup → (∀ x ∈ l, x < n) → l.length ≤ n
  | 0, l, _, h => by
    cases l with
    | nil => simp
    | cons x r => exact absurd (h x (List.mem_cons_self ..)) (by omega)
  | n + 1, l, hd, h => by
    by_cases hm : n ∈ l
    · have h1 := few_of n (l.erase n) (hd.erase n) (fun x hx => by
        have hx' := (List.Nodup.mem_erase_iff hd).1 hx
        have := h x hx'.2
        have := hx'.1
        omega)
      rw [List.length_erase_of_mem hm] at h1
      omega
    · have h1 := few_of n l hd (fun x hx => by
        have := h x hx
        have hne : x ≠ n := fun e => hm (e ▸ hx)
        omega)
      omega
/-- what has been found, up to the place k of it gone through -/
structure Fnd (ks : List (List Int)) (id : Nat) (all : List Nat) (k : Nat) : Prop where
  nodup : all.Nodup
  made : ∀ x ∈ all, Made ks id x
  top : id ∈ all
  closed : ∀ p y, p < k → all[p]? = some y → ∀ x : Nat, (x : Int) ∈ argsOf ks y → x < y → x ∈ all
theorem Fnd.len {ks : List (List Int)} {id k : Nat} {all : List Nat} (h : Fnd ks id all k) : all.length ≤ id + 1 := few_of (id + 1) all h.nodup fun x hx => by have := (h.made x hx).le; omega
theorem Fnd.all {ks : List (List Int)} {id k : Nat} {all : List Nat} (h : Fnd ks id all k) (hk : all.length ≤ k) (x : Nat) : x ∈ all ↔ Made ks id x := by
  constructor
  · exact h.made x
  · intro hm
    induction hm with
    | self => exact h.top
    | part _ hx hlt ih =>
      obtain ⟨p, hp, e⟩ := List.getElem_of_mem ih
      exact h.closed p _ (by omega) (by rw [List.getElem?_eq_getElem hp, e]) _ hx hlt
theorem Fnd.start (ks : List (List Int)) (id : Nat) : Fnd ks id [id] 0 := ⟨by simp, fun x hx => by rw [List.mem_singleton.1 hx]; exact .self, by simp, fun p y h => by omega⟩
theorem Fnd.push {ks : List (List Int)} {id k x y : Nat} {all : List Nat} (h : Fnd ks id all k) (hk : k < all.length) (hy : all[k]? = some y) (hx : (x : Int) ∈ argsOf ks y) (hlt : x < y) (hn : x ∉ all) : Fnd ks id (all ++ [x]) k := by
  refine ⟨?_, fun z hz => ?_, List.mem_append_left _ h.top, fun p y' hp hy' z hz hzy => ?_⟩
  · rw [List.nodup_append]
    exact ⟨h.nodup, by simp, fun a ha b hb => by rw [List.mem_singleton.1 hb]; exact fun e => hn (e ▸ ha)⟩
  · rcases List.mem_append.1 hz with hz | hz
    · exact h.made z hz
    · rw [List.mem_singleton.1 hz]
      exact .part (h.made y (List.mem_of_getElem? hy)) hx hlt
  · rw [List.getElem?_append_left (by omega)] at hy'
    exact List.mem_append_left _ (h.closed p y' hp hy' z hz hzy)
theorem Fnd.next {ks : List (List Int)} {id k y : Nat} {all : List Nat} (h : Fnd ks id all k) (hy : all[k]? = some y) (ha : ∀ x : Nat, (x : Int) ∈ argsOf ks y → x < y → x ∈ all) : Fnd ks id all (k + 1) :=
  ⟨h.nodup, h.made, h.top, fun p y' hp hy' => by
    by_cases e : p = k
    · subst e
      rw [hy] at hy'
      injection hy' with hy'
      subst hy'
      exact ha
    · exact h.closed p y' (by omega) hy'⟩
theorem castL_get {l : List Nat} {k y : Nat} (h : l[k]? = some y) : (castL l)[k]? = some (y : Int) := by unfold castL; rw [List.getElem?_map, h]; rfl
theorem castL_in {l : List Nat} {x : Nat} : inL (castL l) (x : Int) = true ↔ x ∈ l := by
  rw [inL_iff, castL_mem]
  constructor
  · rintro ⟨n, h, e⟩
    obtain rfl : x = n := by omega
    exact h
  · intro h; exact ⟨x, h, rfl⟩
theorem castL_len (l : List Nat) : (castL l).length = l.length := by unfold castL; rw [List.length_map]
theorem castL_snoc (l : List Nat) (x : Nat) : castL (l ++ [x]) = castL l ++ [(x : Int)] := by unfold castL; rw [List.map_append]; rfl
end Go.Proofs.Ytgnbempkobgeiaa.Tm
