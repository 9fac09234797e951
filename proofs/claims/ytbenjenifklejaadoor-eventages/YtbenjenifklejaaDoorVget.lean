/-
  The walks of Get, Text and Cut.
-/
import Derived.Test.YtbenjenifklejaaDoorVput
import Derived.Laws.Concat
namespace Go.Proofs.YtbenjenifklejaaDoor
open Go.ChangeShapes Go.WideShapes Go.ChangeAt Go.RowKit

/-- what Get answers: the number, the place behind it, the error -/
def vget (l : List UInt8) (at_ : Int) : Nat × Nat × Nat :=
  if at_ < 0 ∨ (l.length : Int) < at_ then (0, 0, 1) else
  match l.drop at_.toNat with
  | [] => (0, 0, 3)
  | c :: r => if (c :: r).length < Vn.need c.toNat then (0, 0, 3) else
    if Vn.vsz (Vn.tell ((c :: r).take (Vn.need c.toNat))) = Vn.need c.toNat then (Vn.tell ((c :: r).take (Vn.need c.toNat)), at_.toNat + Vn.need c.toNat, 0) else (0, 0, 4)

/-- a number, a place and an error as Get tells them -/
def tup (x : Nat × Nat × Nat) : Value := .tuple #[.int .u64 x.1, .int .i64 x.2.1, .int .i64 x.2.2]

theorem tup_mk (a b c : Nat) (x : Nat × Nat × Nat) (h : x = (a, b, c)) : Ending.returned (.tuple #[.int .u64 (a : Int), .int .i64 (b : Int), .int .i64 (c : Int)]) = .returned (tup x) := by
  subst h; rfl

theorem size_len (s : ByteArray) : s.data.toList.length = s.size := by simp

theorem extract_at (s : ByteArray) (k m : Nat) (h : k + m ≤ s.size) (hm : 0 < m) : ∃ (h0 : 1 ≤ (s.extract k (k + m)).size) (hk : k < s.size), (s.extract k (k + m)).size = m ∧ ((s.extract k (k + m))[0]'h0) = s[k] ∧
    (s.extract k (k + m)).data.toList = (s.data.toList.drop k).take m ∧ s.data.toList.drop k = s[k] :: (s.data.toList.drop (k + 1)) := by
  have hsz : (s.extract k (k + m)).size = m := by simp [ByteArray.size_extract]; omega
  have hk : k < s.size := by omega
  have hl : (s.extract k (k + m)).data.toList = (s.data.toList.drop k).take m := by
    simp [ByteArray.data_extract, List.extract_eq_take_drop]
  have hd : s.data.toList.drop k = s[k] :: (s.data.toList.drop (k + 1)) := by
    rw [List.drop_eq_getElem_cons (by simpa using hk)]
    rfl
  refine ⟨by omega, hk, hsz, ?_, hl, hd⟩
  simp [ByteArray.getElem_extract]

theorem vget_arg (l : List UInt8) (a : Int) (h : a < 0 ∨ (l.length : Int) < a) : vget l a = (0, 0, 1) := by rw [vget, if_pos h]
theorem vget_end (l : List UInt8) (a : Int) (h : a = l.length) : vget l a = (0, 0, 3) := by
  rw [vget, if_neg (by omega), h]
  simp
theorem vget_short (l : List UInt8) (k : Nat) (c : UInt8) (r : List UInt8) (hk : k ≤ l.length) (h : l.drop k = c :: r) (hs : (c :: r).length < Vn.need c.toNat) : vget l k = (0, 0, 3) := by
  rw [vget, if_neg (by omega), Int.toNat_natCast, h]
  simp only [if_pos hs]
theorem vget_form (l : List UInt8) (k : Nat) (c : UInt8) (r : List UInt8) (hk : k ≤ l.length) (h : l.drop k = c :: r) (hs : ¬ (c :: r).length < Vn.need c.toNat) (ht : ¬ Vn.vsz (Vn.tell ((c :: r).take (Vn.need c.toNat))) = Vn.need c.toNat) : vget l k = (0, 0, 4) := by
  rw [vget, if_neg (by omega), Int.toNat_natCast, h]
  simp only [if_neg hs, if_neg ht]
theorem vget_ok (l : List UInt8) (k : Nat) (c : UInt8) (r : List UInt8) (hk : k ≤ l.length) (h : l.drop k = c :: r) (hs : ¬ (c :: r).length < Vn.need c.toNat) (ht : Vn.vsz (Vn.tell ((c :: r).take (Vn.need c.toNat))) = Vn.need c.toNat) :
    vget l k = (Vn.tell ((c :: r).take (Vn.need c.toNat)), k + Vn.need c.toNat, 0) := by
  rw [vget, if_neg (by omega), Int.toNat_natCast, h]
  simp only [if_neg hs, if_pos ht]

theorem get_facts (s : ByteArray) (k m : Nat) (hk : k < s.size) (hm : m = Vn.need s[k].toNat) (hsh : k + m ≤ s.size) :
    Hid (Vn.tell ((s.data.toList.drop k).take m) ≤ 18446744073709551615 ∧
      (∃ x0 : 1 ≤ (s.extract k (k + m)).size, (s.extract k (k + m)).size = m ∧ Vn.need ((s.extract k (k + m))[0]'x0).toNat = (s.extract k (k + m)).size ∧ (s.extract k (k + m)).data.toList = (s.data.toList.drop k).take m) ∧
      if Vn.vsz (Vn.tell ((s.data.toList.drop k).take m)) = m then vget s.data.toList k = (Vn.tell ((s.data.toList.drop k).take m), k + m, 0) else vget s.data.toList k = (0, 0, 4)) := by
  have hl := size_len s
  have hc := (s[k]).toNat_lt
  have hp := Vn.need_pos _ hc
  rw [← hm] at hp
  obtain ⟨x0, _, xs, xc, xl, hd⟩ := extract_at s k m hsh hp.1
  have hlen : ¬ (s[k] :: s.data.toList.drop (k + 1)).length < Vn.need s[k].toNat := by rw [← hd, List.length_drop]; omega
  refine ⟨?_, ⟨x0, xs, by rw [xc, xs, hm], xl⟩, ?_⟩
  · rw [hd]
    have h := (tell_eq s[k] (((s.data.toList.drop (k + 1)).take (m - 1))) (by
      simp only [List.length_take, List.length_drop]
      rw [← hm, hl]; omega)).2
    rw [show m = m - 1 + 1 by omega, List.take_succ_cons]
    exact h
  · split
    · rename_i h
      rw [hd, hm] at h ⊢
      exact vget_ok s.data.toList k _ _ (by omega) hd hlen h
    · rename_i h
      rw [hd, hm] at h
      exact vget_form s.data.toList k _ _ (by omega) hd hlen h

set_option maxHeartbeats 1000000 in
theorem get_any (s : ByteArray) (a : Int) (w : World) (hs : s.size ≤ maxLen) (h1 : -9223372036854775808 ≤ a) (h2 : a ≤ 9223372036854775807) (hT : Tab w) :
    Calls Tryd.prog 63 #[.string s, .int .i64 a] w fun e w' => e = .returned (tup (vget s.data.toList a)) ∧ Kept w w' := by
  unfold maxLen at hs
  have hl := size_len s
  by_cases hn : a < 0
  · have Hf := Lib.hid (tup_mk 0 0 1 _ (vget_arg s.data.toList a (.inl hn)))
    clear hl
    go_enter Tryd.func63, Tryd.ntmps63
    go_wp2
    go_ret3
    exact ⟨Hf.out, Kept.refl _⟩
  obtain ⟨k, rfl⟩ := Int.eq_ofNat_of_zero_le (show 0 ≤ a by omega)
  by_cases hb : s.size < k
  · have Hf := Lib.hid (tup_mk 0 0 1 _ (vget_arg s.data.toList k (.inr (by omega))))
    clear hl
    go_enter Tryd.func63, Tryd.ntmps63
    go_wp2
    go_ret3
    exact ⟨Hf.out, Kept.refl _⟩
  by_cases he : k = s.size
  · subst he
    have Hf := Lib.hid (tup_mk 0 0 3 _ (vget_end s.data.toList s.size (by omega)))
    clear hl
    go_enter Tryd.func63, Tryd.ntmps63
    go_wp2
    go_ret3
    exact ⟨Hf.out, Kept.refl _⟩
  have hk : k < s.size := by omega
  have hc := (s[k]).toNat_lt
  obtain ⟨hm1, hm9⟩ := Vn.need_pos _ hc
  by_cases hsh : s.size - k < Vn.need s[k].toNat
  · obtain ⟨_, _, _, _, _, hd⟩ := extract_at s k 1 (by omega) (by omega)
    have Hf := Lib.hid (tup_mk 0 0 3 _ (vget_short s.data.toList k _ _ (by omega) hd (by rw [← hd, List.length_drop]; omega)))
    clear hl hd
    go_enter Tryd.func63, Tryd.ntmps63
    go_wp2_with fail
    refine (sizeBehind_any _ _ (by omega) (by omega) hT).mono ?_
    rintro e w' ⟨rfl, rfl⟩
    rw [Int.toNat_natCast]
    go_wp2
    go_ret3
    exact ⟨Hf.out, Kept.refl _⟩
  · obtain ⟨m, hm⟩ : ∃ m, m = Vn.need s[k].toNat := ⟨_, rfl⟩
    have HF := get_facts s k m hk hm (by omega)
    rw [← hm] at hm1 hm9 hsh
    have hkm : k + m ≤ s.size := by omega
    have hb2 := HF.out.1
    have Hm := Lib.hid hm
    clear hl hm
    go_enter Tryd.func63, Tryd.ntmps63
    go_wp2_with fail
    refine (sizeBehind_any _ _ (by omega) (by omega) hT).mono ?_
    rintro e w' ⟨rfl, rfl⟩
    rw [Int.toNat_natCast, ← Hm.out]
    go_wp2_with fail
    obtain ⟨x0, x1, x2, x3⟩ := HF.out.2.1
    refine (tell_any (s.extract k (k + m)) _ x0 (by rw [x1]; exact hm9) x2 hT).mono ?_
    rintro e w1 ⟨rfl, hk1⟩
    rw [x3]
    clear x0 x1 x2 x3
    have hT1 := hT.kept hk1
    obtain ⟨T, hTl⟩ : ∃ T, T = Vn.tell ((s.data.toList.drop k).take m) := ⟨_, rfl⟩
    rw [← hTl] at hb2 ⊢
    have HTl := Lib.hid hTl
    clear hTl
    go_wp2_with fail
    refine (size_any _ _ (by omega) (by omega) hT1).mono ?_
    rintro e w2 ⟨rfl, rfl⟩
    rw [Int.toNat_natCast]
    have hv := HF.out.2.2
    rw [← HTl.out] at hv
    by_cases hz : Vn.vsz T = m
    · rw [if_pos hz] at hv
      have Hf := Lib.hid (tup_mk _ _ _ _ hv)
      clear hv
      rw [hz]
      have Hz := Lib.hid hz
      clear hz
      go_wp2
      go_ret3
      exact ⟨Hf.out, hk1⟩
    · rw [if_neg hz] at hv
      have Hf := Lib.hid (tup_mk _ _ _ _ hv)
      clear hv
      go_wp2
      go_ret3
      exact ⟨Hf.out, hk1⟩
end Go.Proofs.YtbenjenifklejaaDoor
