/-
  What the nodes of a trie let by is what the filters do. Mathematics alone.
-/
import Derived.Test.YtalebnhkidhglaaGreatRlaw2
namespace Go.Proofs.YtalebnhkidhglaaGreat
open Go.ChangeShapes Go.WideShapes Go.ChangeAt Go.RowKit Go.Maps

theorem filt_hash {q : Path} (h : Tp.filt (Tp.hash :: q) = true) : q = [] := by
  cases q with
  | nil => rfl
  | cons y ys =>
    rw [Tp.filt, Tp.part_hash, Bool.false_and] at h
    cases h
theorem filt_tail {y : List UInt8} {q : Path} (h : Tp.filt (y :: q) = true) : Tp.filt q = true := by
  cases q with
  | nil => rfl
  | cons z zs =>
    rw [Tp.filt, Bool.and_eq_true] at h
    exact h.2
/-- what the nodes let by is what the filter lets by -/
theorem lets_cov : ∀ (f t : Path), Tp.filt f = true → (∀ x ∈ t, x ≠ Tp.hash) → lets f t = Tp.cov f t
  | [], [], _, _ => rfl
  | [], _ :: _, _, _ => rfl
  | y :: q, [], hf, _ => by
    rw [lets, Tp.cov]
    by_cases e : y = Tp.hash
    · subst e
      rw [filt_hash hf]; rfl
    · rw [beq_eq_false_iff_ne.2 e]; rfl
  | y :: q, x :: ls, hf, hx => by
    rw [lets, Tp.cov]
    by_cases e : y = Tp.hash
    · subst e
      rw [if_pos rfl, filt_hash hf]
      simp
    · rw [if_neg e, if_neg (hx x (by simp)), beq_eq_false_iff_ne.2 e, Bool.false_and, Bool.false_or, lets_cov q ls (filt_tail hf) (fun z hz => hx z (List.mem_cons_of_mem _ hz))]
theorem lets_match {f s : List UInt8} (hf : Tp.filter f = true) (hs : Tp.right s = true) : lets (Tp.lev f) (Tp.lev s) = Tp.match_ f s := by
  rw [Tp.match_by hs, hf, Bool.true_and]
  refine lets_cov _ _ ?_ (Tp.right_nohash hs)
  unfold Tp.filter at hf
  rw [Bool.and_eq_true] at hf
  exact hf.2
end Go.Proofs.YtalebnhkidhglaaGreat
