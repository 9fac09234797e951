/-
  The document's reckoning by rows comes to the same.
-/
import Derived.Test.YtalebnhkidhglaaGreatTref4
namespace Go.Proofs.YtalebnhkidhglaaGreat
namespace Tp
theorem filt_cases {xs : List L} (h : filt xs = true) (hne : xs ≠ []) : xs.all part = true ∨ ∃ q, xs = q ++ [hash] ∧ q.all part = true := by
  obtain ⟨q, x, rfl⟩ : ∃ q x, xs = q ++ [x] := ⟨xs.dropLast, xs.getLast hne, (List.dropLast_concat_getLast hne).symm⟩
  rw [filt_app, Bool.and_eq_true, filt_one, Bool.or_eq_true, beq_iff_eq] at h
  rcases h.2 with hp | hp
  · exact .inl (by rw [List.all_append, h.1]; simp [hp])
  · exact .inr ⟨q, by rw [hp], h.1⟩
theorem part_ne_hash {x : L} (h : part x = true) : x ≠ hash := by rintro rfl; rw [part_hash] at h; cases h
theorem all_nohash {xs : List L} (h : xs.all part = true) : ∀ x ∈ xs, x ≠ hash := by
  rw [List.all_eq_true] at h
  exact fun x hx => part_ne_hash (h x hx)
theorem row_open : ∀ (q : List L) (n : Nat), q.all part = true → row (q ++ [hash]) n = if q.length ≤ n then some (q ++ List.replicate (n - q.length) plus) else none
  | [], n, _ => by rw [List.nil_append, row_hash]; simp
  | x :: q, n, h => by
    rw [List.all_cons, Bool.and_eq_true] at h
    have hx := part_ne_hash h.1
    rw [List.cons_append]
    cases n with
    | zero => rw [row_zero _ hx]; simp
    | succ n =>
      rw [row_succ _ n hx, row_open q n h.2]
      by_cases hq : q.length ≤ n
      · rw [if_pos hq, if_pos (by simp; exact hq)]
        simp
      · rw [if_neg hq, if_neg (by simp; omega)]; rfl
theorem rowv_row {xs : List L} (h : filt xs = true) (hne : xs ≠ []) (n : Nat) : row xs n = if (rowv xs n).2 then some (rowv xs n).1 else none := by
  rcases filt_cases h hne with ha | ⟨q, rfl, hq⟩
  · have hn := all_nohash ha
    have hl : xs.getLast? ≠ some hash := by
      intro e
      exact hn hash (List.mem_of_getLast? e) rfl
    rw [rowv_plain hl]
    by_cases e : xs.length = n
    · subst e; rw [row_self xs hn]; simp
    · cases hr : row xs n with
      | none => simp [e]
      | some y => exact absurd (row_plain xs hn n y hr).2 (fun k => e k.symm)
  · rw [rowv_hash (by simp), row_open q n hq]
    simp
theorem rowv_filter {a : L} (h : filter a = true) (n : Nat) : row (lev a) n = if (rowv (lev a) n).2 then some (rowv (lev a) n).1 else none := rowv_row (filter_filt h) (lev_ne a) n
theorem rowv_len {xs : List L} {n : Nat} (h : (rowv xs n).2 = true) : (rowv xs n).1.length = n := by
  unfold rowv at h ⊢
  split at h
  · rename_i hl
    rw [if_pos hl]
    simp at h ⊢
    omega
  · rename_i hl
    rw [if_neg hl]
    simpa using h
theorem covers_rowv {a b : L} (ha : filter a = true) (hb : filter b = true) :
    covers a b = true ↔ ∀ n, 1 ≤ n → n ≤ 8 → (rowv (lev b) n).2 = true → (rowv (lev a) n).2 = true ∧ ptw (rowv (lev a) n).1 (rowv (lev b) n).1 = true := by
  rw [covers_iff]
  constructor
  · rintro ⟨_, _, k⟩ n h1 h2 hs
    obtain ⟨x, hx, hp⟩ := k n _ h1 h2 (by rw [rowv_filter hb, if_pos hs])
    rw [rowv_filter ha] at hx
    split at hx
    · rename_i h; cases hx; exact ⟨h, hp⟩
    · cases hx
  · intro k
    refine ⟨ha, hb, fun n y h1 h2 hy => ?_⟩
    rw [rowv_filter hb] at hy
    split at hy
    · rename_i hs
      cases hy
      obtain ⟨h3, h4⟩ := k n h1 h2 hs
      exact ⟨_, by rw [rowv_filter ha, if_pos h3], h4⟩
    · cases hy
theorem meet_rowv {a b : L} (ha : filter a = true) (hb : filter b = true) :
    meet a b = true ↔ ∃ n, 1 ≤ n ∧ n ≤ 8 ∧ (rowv (lev a) n).2 = true ∧ (rowv (lev b) n).2 = true ∧ mtw (rowv (lev a) n).1 (rowv (lev b) n).1 = true := by
  rw [meet_iff]
  constructor
  · rintro ⟨_, _, n, x, y, h1, h2, hx, hy, hm⟩
    rw [rowv_filter ha] at hx
    rw [rowv_filter hb] at hy
    split at hx
    · split at hy
      · rename_i p q; cases hx; cases hy; exact ⟨n, h1, h2, p, q, hm⟩
      · cases hy
    · cases hx
  · rintro ⟨n, h1, h2, p, q, hm⟩
    exact ⟨ha, hb, n, _, _, h1, h2, by rw [rowv_filter ha, if_pos p], by rw [rowv_filter hb, if_pos q], hm⟩
theorem match_rowv {f t : L} (hf : filter f = true) (ht : right t = true) : match_ f t = ((rowv (lev f) (lev t).length).2 && ptw (rowv (lev f) (lev t).length).1 (lev t)) := by
  have hn := right_nohash ht
  rw [Bool.eq_iff_iff, match_iff, covers_iff, Bool.and_eq_true]
  constructor
  · rintro ⟨_, _, _, k⟩
    obtain ⟨x, hx, hp⟩ := k _ _ (lev_pos t) (right_len ht) (row_self _ hn)
    rw [rowv_filter hf] at hx
    split at hx
    · rename_i h; cases hx; exact ⟨h, hp⟩
    · cases hx
  · rintro ⟨h1, h2⟩
    refine ⟨ht, hf, right_filter ht, fun n y _ _ hy => ?_⟩
    obtain ⟨rfl, rfl⟩ := row_plain _ hn n y hy
    exact ⟨_, by rw [rowv_filter hf, if_pos h1], h2⟩
theorem ptw_drop {x y : List L} {k : Nat} (h1 : k < x.length) (h2 : k < y.length) : ptw (x.drop k) (y.drop k) = ((x[k] == plus || x[k] == y[k]) && ptw (x.drop (k + 1)) (y.drop (k + 1))) := by
  rw [List.drop_eq_getElem_cons h1, List.drop_eq_getElem_cons h2, ptw]
theorem mtw_drop {x y : List L} {k : Nat} (h1 : k < x.length) (h2 : k < y.length) : mtw (x.drop k) (y.drop k) = ((x[k] == plus || y[k] == plus || x[k] == y[k]) && mtw (x.drop (k + 1)) (y.drop (k + 1))) := by
  rw [List.drop_eq_getElem_cons h1, List.drop_eq_getElem_cons h2, mtw]
end Tp
end Go.Proofs.YtalebnhkidhglaaGreat
