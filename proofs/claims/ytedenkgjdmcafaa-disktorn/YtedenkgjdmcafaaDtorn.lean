/-
  A file that is only appended to: what a crash leaves of it, in plain mathematics.
-/
import Derived.Test.YtedenkgjdmcafaaDplay
namespace Go.Proofs.Ytedenkgjdmcafaa
namespace Dk
theorem ext_append (a b : ByteArray) (n : Nat) : (a ++ b).extract 0 n = a.extract 0 n ++ b.extract 0 (n - a.size) := by
  apply ByteArray.ext
  simp [Array.extract_append]
/-- file 2 is all: kept bytes, and behind them those of the writes -/
structure Torn (K : Fl) (ws : List W) (all kept : ByteArray) : Prop where
  k : K 2 = kept
  size : all.size = kept.size + total ws
  cut : ∀ n, after K ws n 2 = all.extract 0 (kept.size + min n (total ws))
theorem Torn.now {K : Fl} {ws : List W} {all kept : ByteArray} (h : Torn K ws all kept) : after K ws (total ws) 2 = all := by
  rw [h.cut, Nat.min_self, ← h.size, extract_all]
theorem Torn.sync {K : Fl} {ws : List W} {all kept : ByteArray} (h : Torn K ws all kept) : Torn (after K ws (total ws)) [] all all :=
  ⟨h.now, by simp [total], fun n => by simp only [after, h.now, total, Nat.min_zero, Nat.add_zero]; rw [extract_all]⟩
theorem Torn.add {K : Fl} {ws : List W} {all kept : ByteArray} (h : Torn K ws all kept) (s : ByteArray) : Torn K (more ws ⟨2, s, false⟩) (all ++ s) kept := by
  have hu : units ⟨2, s, false⟩ = s.size := rfl
  unfold more
  by_cases h0 : units ⟨2, s, false⟩ = 0
  · rw [if_pos h0]
    have hs : s = ByteArray.empty := ByteArray.ext (Array.eq_empty_of_size_eq_zero (by rw [hu] at h0; exact h0))
    subst hs
    rw [append_none]
    exact h
  · rw [if_neg h0]
    refine ⟨h.k, by rw [ByteArray.size_append, total_snoc, hu, h.size]; omega, fun n => ?_⟩
    rw [after_snoc, total_snoc, hu]
    have hp : put (after K ws n) ⟨2, s, false⟩ (min s.size (n - total ws)) 2 = after K ws n 2 ++ s.extract 0 (min s.size (n - total ws)) := by simp [put]
    rw [hp, h.cut, ext_append, h.size]
    by_cases hn : n ≤ total ws
    · have e1 : min n (total ws) = n := by omega
      have e2 : min n (total ws + s.size) = n := by omega
      have e3 : min s.size (n - total ws) = 0 := by omega
      have e4 : kept.size + n - (kept.size + total ws) = 0 := by omega
      rw [e1, e2, e3, e4]
    · have e1 : min n (total ws) = total ws := by omega
      have e3 : kept.size + min n (total ws + s.size) - (kept.size + total ws) = min s.size (n - total ws) := by omega
      rw [e1, e3, ← h.size, extract_all]
      congr 1
      have hz : all.data.size ≤ kept.size + min n (total ws + s.size) := by
        have h1 := h.size
        have h2 : all.data.size = all.size := rfl
        omega
      apply ByteArray.ext
      simp only [ByteArray.data_extract]
      exact (Array.extract_eq_self_of_le hz).symm
end Dk
end Go.Proofs.Ytedenkgjdmcafaa
