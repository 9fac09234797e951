/-
  What a filter with # behind it lets by, by the beginnings of a text.
-/
import Derived.Test.YtlgjnngacganmaaTref5
namespace Go.Proofs.Ytlgjnngacganmaa
namespace Tp
/-- whether a filter lets one of the first k beginnings by -/
def someTo (f : L) (l : List L) : Nat → Bool
  | 0 => false
  | k + 1 => someTo f l k || match_ f (join (l.take (k + 1)))
theorem someTo_iff (f : L) (l : List L) : ∀ n, someTo f l n = true ↔ ∃ k, 1 ≤ k ∧ k ≤ n ∧ match_ f (join (l.take k)) = true
  | 0 => by
    refine ⟨fun h => (by cases h), ?_⟩
    rintro ⟨k, h1, h2, _⟩
    omega
  | n + 1 => by
    rw [someTo, Bool.or_eq_true, someTo_iff f l n]
    constructor
    · rintro (⟨k, h1, h2, h3⟩ | h)
      · exact ⟨k, h1, by omega, h3⟩
      · exact ⟨n + 1, by omega, Nat.le_refl _, h⟩
    · rintro ⟨k, h1, h2, h3⟩
      by_cases e : k = n + 1
      · subst e; exact .inr h3
      · exact .inl ⟨k, h1, by omega, h3⟩
theorem join_take_len : ∀ (l : List L) (k : Nat), (join (l.take k)).length ≤ (join l).length
  | [], k => by simp
  | [x], 0 => by simp [join]
  | [x], k + 1 => by simp
  | x :: y :: l, 0 => by simp [join]
  | x :: y :: l, 1 => by simp [join]
  | x :: y :: l, k + 2 => by
    have := join_take_len (y :: l) (k + 1)
    rw [List.take_succ_cons, join_cons x (y :: l) (by simp), join_cons x ((y :: l).take (k + 1)) (by simp)]
    simp only [List.length_append, List.length_cons]
    omega
theorem take_names {l : List L} (h : names l = true) (k : Nat) : names (l.take k) = true := by
  rw [names, List.all_eq_true] at h ⊢
  exact fun x hx => h x (List.mem_of_mem_take hx)
theorem name_noslash {x : L} (h : name x = true) : ∀ c ∈ x, c ≠ 47 := by
  rintro c hc rfl
  rw [name, Bool.and_eq_true, List.all_eq_true] at h
  have := h.2 47 hc
  exact absurd this (by decide)
theorem lev_take {s : L} (h : right s = true) {k : Nat} (hk : 1 ≤ k) : lev (join ((lev s).take k)) = (lev s).take k := by
  refine lev_of_join _ ?_ fun x hx => name_noslash (names_mem (take_names (right_names h) k) x hx)
  intro e
  have := lev_pos s
  rw [List.take_eq_nil_iff] at e
  rcases e with e | e
  · omega
  · exact lev_ne s e
theorem right_take {s : L} (h : right s = true) {k : Nat} (hk : 1 ≤ k) : right (join ((lev s).take k)) = true := by
  rw [right, lev_take h hk, take_names (right_names h), decide_eq_true (by rw [List.length_take]; have := right_len h; omega)]
  rfl
theorem match_rest {f s : L} (hg : filter (f ++ [47, 35]) = true) : match_ (f ++ [47, 35]) s = (someTo f (lev s) (lev s).length && right s) := by
  obtain ⟨hp, hf⟩ := filter_rest hg
  cases hr : right s with
  | false => rw [match_right hr]; simp
  | true =>
    rw [Bool.and_true, Bool.eq_iff_iff, someTo_iff, match_by hr, hg, Bool.true_and, lev_rest, cov_rest _ _ hp (right_nohash hr)]
    constructor
    · rintro ⟨k, hk, hc⟩
      cases k with
      | zero =>
        exfalso
        rw [List.take_zero] at hc
        cases hl : lev f with
        | nil => exact lev_ne f hl
        | cons x xs =>
          rw [hl] at hc hp
          rw [cov] at hc
          have : x = hash := eq_of_beq hc
          subst this
          rw [List.all_cons, part_hash] at hp; cases hp
      | succ k =>
        refine ⟨k + 1, by omega, hk, ?_⟩
        rw [match_by (right_take hr (by omega)), hf, lev_take hr (by omega), Bool.true_and]
        exact hc
    · rintro ⟨k, h1, h2, h3⟩
      refine ⟨k, h2, ?_⟩
      rw [match_by (right_take hr h1), hf, lev_take hr h1, Bool.true_and] at h3
      exact h3
theorem join_take_succ {l : List L} {k : Nat} (h : k < l.length) (hk : 1 ≤ k) : join (l.take (k + 1)) = (join (l.take k) ++ [47]) ++ l[k] := by
  rw [List.take_add_one, List.getElem?_eq_getElem h, Option.toList_some, join_snoc]
  · simp
  · intro e
    rw [List.take_eq_nil_iff] at e
    rcases e with e | e
    · omega
    · rw [e] at h; exact absurd h (Nat.not_lt_zero _)
theorem join_take_one {l : List L} (h : 0 < l.length) : join (l.take 1) = l[0] := by
  cases l with
  | nil => exact absurd h (Nat.not_lt_zero _)
  | cons x l => rfl
end Tp
end Go.Proofs.Ytlgjnngacganmaa
