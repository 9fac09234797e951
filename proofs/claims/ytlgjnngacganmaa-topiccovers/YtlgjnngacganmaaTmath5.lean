/-
  Topics with a name of their own wherever any will do.
-/
import Derived.Test.YtlgjnngacganmaaTmath4
namespace Go.Proofs.Ytlgjnngacganmaa
namespace Tp
def zz : L := [122, 122, 95, 57, 45, 122, 122, 95, 57, 45, 122, 122]
/-- a level, with a name of its own where any will do -/
def fr (x : L) : L := if x = plus then zz else x
def freshL (b : L) (n : Nat) : L := join ((rowv (lev b) n).1.map fr)
theorem zz_name : name zz = true := by decide
theorem fr_name {x : L} (h : part x = true) : name (fr x) = true := by
  unfold fr
  split
  · exact zz_name
  · rename_i hx
    rw [part, Bool.or_eq_true, beq_iff_eq] at h
    exact h.resolve_right hx
theorem rowv_parts {xs : List L} (h : filt xs = true) (hne : xs ≠ []) {n : Nat} (hs : (rowv xs n).2 = true) : (rowv xs n).1.all part = true := by
  rcases filt_cases h hne with ha | ⟨q, rfl, hq⟩
  · rw [rowv_plain (fun e => all_nohash ha hash (List.mem_of_getLast? e) rfl)]; exact ha
  · rw [rowv_hash (by simp)]
    simp only [List.dropLast_concat]
    rw [List.all_append, hq, Bool.true_and, List.all_eq_true]
    intro x hx
    rw [List.eq_of_mem_replicate hx]
    decide
theorem rowv_mem {xs : List L} {n : Nat} {x : L} (h : x ∈ (rowv xs n).1) : x ∈ xs ∨ x = plus := by
  unfold rowv at h
  split at h
  · rcases List.mem_append.1 h with h | h
    · exact .inl (List.dropLast_subset _ h)
    · exact .inr (List.eq_of_mem_replicate h)
  · exact .inl h
theorem fresh_names {b : L} (hb : filter b = true) {n : Nat} (hs : (rowv (lev b) n).2 = true) : names ((rowv (lev b) n).1.map fr) = true := by
  have := rowv_parts (filter_filt hb) (lev_ne b) hs
  rw [List.all_eq_true] at this
  rw [names, List.all_eq_true]
  intro x hx
  obtain ⟨y, hy, rfl⟩ := List.mem_map.1 hx
  exact fr_name (this y hy)
theorem lev_fresh {b : L} (hb : filter b = true) {n : Nat} (h1 : 1 ≤ n) (hs : (rowv (lev b) n).2 = true) : lev (freshL b n) = (rowv (lev b) n).1.map fr := by
  refine lev_of_join _ ?_ fun x hx => name_noslash (names_mem (fresh_names hb hs) x hx)
  intro e
  have := rowv_len hs
  have e2 := congrArg List.length e
  rw [List.length_map, List.length_nil] at e2
  omega
theorem right_fresh {b : L} (hb : filter b = true) {n : Nat} (h1 : 1 ≤ n) (h8 : n ≤ 8) (hs : (rowv (lev b) n).2 = true) : right (freshL b n) = true := by
  rw [right, lev_fresh hb h1 hs, fresh_names hb hs, decide_eq_true (by rw [List.length_map, rowv_len hs]; exact h8)]; rfl
theorem ptw_fr_self : ∀ y : List L, ptw y (y.map fr) = true
  | [] => rfl
  | x :: y => by
    rw [List.map_cons, ptw, ptw_fr_self y, Bool.and_true]
    unfold fr
    split
    · rename_i h; simp [h]
    · simp
theorem ptw_fr : ∀ x y : List L, (∀ u ∈ x, u ≠ zz) → ptw x (y.map fr) = ptw x y
  | [], [], _ => rfl
  | [], _ :: _, _ => rfl
  | _ :: _, [], _ => rfl
  | x :: a, y :: b, h => by
    rw [List.map_cons, ptw, ptw, ptw_fr a b (fun u hu => h u (by simp [hu]))]
    congr 1
    unfold fr
    split
    · rename_i hy
      subst hy
      have : (x == zz) = false := beq_eq_false_iff_ne.2 (h x (by simp))
      rw [this]; simp
    · rfl
theorem match_fresh {a b : L} (ha : filter a = true) (hb : filter b = true) {n : Nat} (h1 : 1 ≤ n) (h8 : n ≤ 8) (hs : (rowv (lev b) n).2 = true) :
    match_ a (freshL b n) = ((rowv (lev a) n).2 && ptw (rowv (lev a) n).1 ((rowv (lev b) n).1.map fr)) := by
  rw [match_rowv ha (right_fresh hb h1 h8 hs), lev_fresh hb h1 hs, List.length_map, rowv_len hs]
theorem match_fresh_self {b : L} (hb : filter b = true) {n : Nat} (h1 : 1 ≤ n) (h8 : n ≤ 8) (hs : (rowv (lev b) n).2 = true) : match_ b (freshL b n) = true := by
  rw [match_fresh hb hb h1 h8 hs, hs, ptw_fr_self]; rfl
/-- whether a lets the topics of up to k levels by -/
def allTo (a b : L) : Nat → Bool
  | 0 => true
  | k + 1 => allTo a b k && (!(rowv (lev b) (k + 1)).2 || match_ a (freshL b (k + 1)))
theorem allTo_iff (a b : L) : ∀ n, allTo a b n = true ↔ ∀ k, 1 ≤ k → k ≤ n → (rowv (lev b) k).2 = true → match_ a (freshL b k) = true
  | 0 => ⟨fun _ k h1 h2 => by omega, fun _ => rfl⟩
  | n + 1 => by
    rw [allTo, Bool.and_eq_true, allTo_iff a b n]
    constructor
    · rintro ⟨h, hl⟩ k h1 h2 hs
      by_cases e : k = n + 1
      · subst e
        rw [hs] at hl
        simpa using hl
      · exact h k h1 (by omega) hs
    · intro h
      refine ⟨fun k h1 h2 => h k h1 (by omega), ?_⟩
      cases hs : (rowv (lev b) (n + 1)).2 with
      | false => rfl
      | true => rw [h (n + 1) (by omega) (Nat.le_refl _) hs]; rfl
theorem covers_all {a b : L} (ha : filter a = true) (hb : filter b = true) (hz : ∀ x ∈ lev a, x ≠ zz) : covers a b = allTo a b 8 := by
  rw [Bool.eq_iff_iff, covers_rowv ha hb, allTo_iff]
  refine forall_congr' fun n => forall_congr' fun h1 => forall_congr' fun h8 => forall_congr' fun hs => ?_
  rw [match_fresh ha hb h1 h8 hs, Bool.and_eq_true, ptw_fr]
  intro u hu
  rcases rowv_mem hu with h | h
  · exact hz u h
  · subst h; decide
theorem fresh_zero (xs : List L) : join ((xs.map fr).take 0) = [] := rfl
end Tp
end Go.Proofs.Ytlgjnngacganmaa
