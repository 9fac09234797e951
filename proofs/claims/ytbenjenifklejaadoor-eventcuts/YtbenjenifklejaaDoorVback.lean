/-
  What is put is got: of rows of bytes.
-/
import Derived.Test.YtbenjenifklejaaDoorVcut
namespace Go.Proofs.YtbenjenifklejaaDoor
open Go.ChangeShapes Go.WideShapes Go.ChangeAt Go.RowKit

theorem vget_put (s t : List UInt8) (n : Nat) (h : n < 18446744073709551616) : vget (s ++ (Vn.vput n ++ t)) s.length = (n, s.length + Vn.vsz n, 0) := by
  obtain ⟨c, r, h1, h2, h3⟩ := Vn.vput_head n h
  have hl := Vn.vput_length n
  rw [h1] at hl
  have hd : (s ++ (Vn.vput n ++ t)).drop s.length = c :: (r ++ t) := by rw [List.drop_left, h1]; rfl
  have htk : (c :: (r ++ t)).take (Vn.need c.toNat) = c :: r := by
    rw [h2, ← hl, ← List.cons_append]
    exact List.take_left
  rw [vget_ok _ s.length c (r ++ t) (by simp) hd (by rw [h2, ← hl]; simp only [List.length_cons, List.length_append]; omega) (by rw [htk, h3, h2]), htk, h3, h2]
theorem vget_cut (n i : Nat) (h : n < 18446744073709551616) (hi : i < Vn.vsz n) : vget ((Vn.vput n).take i) 0 = (0, 0, 3) := by
  obtain ⟨c, r, h1, h2, h3⟩ := Vn.vput_head n h
  have hl := Vn.vput_length n
  rw [h1] at hl ⊢
  cases i with
  | zero => exact vget_end _ _ (by simp)
  | succ i =>
    rw [List.take_succ_cons]
    refine vget_short _ 0 c (r.take i) (Nat.zero_le _) rfl ?_
    rw [h2]
    simp only [List.length_cons, List.length_take]
    omega
theorem vcut_of (l : List UInt8) (a : Int) (n t : Nat) (h : vget l a = (n, t, 0)) (hn : n ≤ 65536) (hl : t + n ≤ l.length) : vcut l a = ((l.drop t).take n, t + n, 0) := by
  unfold vcut
  rw [h]
  simp only
  rw [if_neg (by simp), if_neg (by omega), if_neg (by omega)]
theorem vcut_cut (s : List UInt8) (j : Nat) (hs : s.length ≤ 65536) (hj : j < Vn.vsz s.length + s.length) : vcut ((Vn.vput s.length ++ s).take j) 0 = ([], 0, 3) := by
  have hp := Vn.vput_length s.length
  by_cases h : j < Vn.vsz s.length
  · unfold vcut
    rw [List.take_append_of_le_length (by omega), vget_cut _ _ (by omega) h]
    simp
  · have hg := vget_put [] (s.take (j - Vn.vsz s.length)) s.length (by omega)
    rw [List.take_append, List.take_of_length_le (by omega), hp]
    simp only [List.nil_append, List.length_nil, Nat.zero_add] at hg
    unfold vcut
    rw [show (0 : Int) = ((0 : Nat) : Int) from rfl, hg]
    simp only
    rw [if_neg (by simp), if_neg (by omega), if_pos (by rw [List.length_append, List.length_take, hp]; omega)]
theorem vcut_text (a s t : List UInt8) (hs : s.length ≤ 65536) : vcut (a ++ (Vn.vput s.length ++ s ++ t)) a.length = (s, a.length + Vn.vsz s.length + s.length, 0) := by
  have hp := Vn.vput_length s.length
  have hg := vget_put a (s ++ t) s.length (by omega)
  rw [List.append_assoc]
  rw [vcut_of _ _ _ _ hg hs (by simp only [List.length_append, hp]; omega)]
  have hd : (a ++ (Vn.vput s.length ++ (s ++ t))).drop (a.length + Vn.vsz s.length) = s ++ t := by
    rw [← hp, ← List.append_assoc, ← List.length_append, List.drop_left]
  rw [hd, List.take_left]
theorem vget_err (l : List UInt8) (a : Int) (h : (vget l a).2.2 ≠ 0) : vget l a = (0, 0, (vget l a).2.2) := by
  unfold vget at h ⊢
  split
  · rfl
  rename_i h1
  rw [if_neg h1] at h
  split
  · rfl
  rename_i c r hd
  rw [hd] at h
  simp only at h
  split
  · rfl
  rename_i h2
  rw [if_neg h2] at h
  split
  · rename_i h3
    rw [if_pos h3] at h
    simp at h
  · rfl
/-- what is got, put, is the bytes of which it was -/
theorem vput_got (l : List UInt8) (n t : Nat) (h : vget l 0 = (n, t, 0)) : 0 < t ∧ t ≤ l.length ∧ n < 18446744073709551616 ∧ Vn.vput n = l.take t := by
  have hle := vget_le l 0
  rw [h] at hle
  simp only at hle
  cases l with
  | nil => rw [vget_end [] 0 rfl] at h; cases h
  | cons c r =>
    have hc := c.toNat_lt
    have hp := Vn.need_pos _ hc
    by_cases h2 : (c :: r).length < Vn.need c.toNat
    · rw [show (0 : Int) = ((0 : Nat) : Int) from rfl, vget_short (c :: r) 0 c r (Nat.zero_le _) rfl h2] at h
      cases h
    by_cases h3 : Vn.vsz (Vn.tell ((c :: r).take (Vn.need c.toNat))) = Vn.need c.toNat
    · rw [show (0 : Int) = ((0 : Nat) : Int) from rfl, vget_ok (c :: r) 0 c r (Nat.zero_le _) rfl h2 h3] at h
      simp only [Prod.mk.injEq, Nat.zero_add, and_true] at h
      obtain ⟨rfl, rfl⟩ := h
      refine ⟨by omega, hle.2.1, by omega, ?_⟩
      obtain ⟨m, hm⟩ : ∃ m, Vn.need c.toNat = m + 1 := ⟨Vn.need c.toNat - 1, by omega⟩
      have hlen : (c :: r.take m).length = Vn.need c.toNat := by rw [hm] at h2 ⊢; simp only [List.length_cons, List.length_take] at h2 ⊢; omega
      rw [hm, List.take_succ_cons] at h3 ⊢
      exact Vn.vput_tell c (r.take m) hlen (by rw [hm]; exact h3)
    · rw [show (0 : Int) = ((0 : Nat) : Int) from rfl, vget_form (c :: r) 0 c r (Nat.zero_le _) rfl h2 h3] at h
      cases h
end Go.Proofs.YtbenjenifklejaaDoor
