/-
  What is put is got: of rows of bytes.
-/
import Derived.Test.YtenhncohhikllaaDoorVput
import Derived.Laws.Concat
namespace Go.Proofs.YtenhncohhikllaaDoor
open Go.ChangeShapes Go.WideShapes Go.ChangeAt Go.RowKit

/-- what Get answers: the number, the place behind it, the error -/
def vget (l : List UInt8) (at_ : Int) : Nat × Nat × Nat :=
  if at_ < 0 ∨ (l.length : Int) < at_ then (0, 0, 1) else
  match l.drop at_.toNat with
  | [] => (0, 0, 3)
  | c :: r => if (c :: r).length < Vn.need c.toNat then (0, 0, 3) else
    if Vn.vsz (Vn.tell ((c :: r).take (Vn.need c.toNat))) = Vn.need c.toNat then (Vn.tell ((c :: r).take (Vn.need c.toNat)), at_.toNat + Vn.need c.toNat, 0) else (0, 0, 4)

/-- a number, a place and an error as Get tells them -/
def tup (x : Nat × Nat × Nat) : Value := .tuple #[.int .u64 x.1, .int .i64 x.2.1, .int .i64 x.2.2]

theorem tup_mk (a b c : Nat) (x : Nat × Nat × Nat) (h : x = (a, b, c)) : Ending.returned (.tuple #[.int .u64 (a : Int), .int .i64 (b : Int), .int .i64 (c : Int)]) = .returned (tup x) := by
  subst h; rfl

theorem size_len (s : ByteArray) : s.data.toList.length = s.size := by simp

theorem extract_at (s : ByteArray) (k m : Nat) (h : k + m ≤ s.size) (hm : 0 < m) : ∃ (h0 : 1 ≤ (s.extract k (k + m)).size) (hk : k < s.size), (s.extract k (k + m)).size = m ∧ ((s.extract k (k + m))[0]'h0) = s[k] ∧
    (s.extract k (k + m)).data.toList = (s.data.toList.drop k).take m ∧ s.data.toList.drop k = s[k] :: (s.data.toList.drop (k + 1)) := by
  have hsz : (s.extract k (k + m)).size = m := by simp [ByteArray.size_extract]; omega
  have hk : k < s.size := by omega
  have hl : (s.extract k (k + m)).data.toList = (s.data.toList.drop k).take m := by
    simp [ByteArray.data_extract, List.extract_eq_take_drop]
  have hd : s.data.toList.drop k = s[k] :: (s.data.toList.drop (k + 1)) := by
    rw [List.drop_eq_getElem_cons (by simpa using hk)]
    rfl
  refine ⟨by omega, hk, hsz, ?_, hl, hd⟩
  simp [ByteArray.getElem_extract]

theorem vget_arg (l : List UInt8) (a : Int) (h : a < 0 ∨ (l.length : Int) < a) : vget l a = (0, 0, 1) := by rw [vget, if_pos h]
theorem vget_end (l : List UInt8) (a : Int) (h : a = l.length) : vget l a = (0, 0, 3) := by
  rw [vget, if_neg (by omega), h]
  simp
theorem vget_short (l : List UInt8) (k : Nat) (c : UInt8) (r : List UInt8) (hk : k ≤ l.length) (h : l.drop k = c :: r) (hs : (c :: r).length < Vn.need c.toNat) : vget l k = (0, 0, 3) := by
  rw [vget, if_neg (by omega), Int.toNat_natCast, h]
  simp only [if_pos hs]
theorem vget_form (l : List UInt8) (k : Nat) (c : UInt8) (r : List UInt8) (hk : k ≤ l.length) (h : l.drop k = c :: r) (hs : ¬ (c :: r).length < Vn.need c.toNat) (ht : ¬ Vn.vsz (Vn.tell ((c :: r).take (Vn.need c.toNat))) = Vn.need c.toNat) : vget l k = (0, 0, 4) := by
  rw [vget, if_neg (by omega), Int.toNat_natCast, h]
  simp only [if_neg hs, if_neg ht]
theorem vget_ok (l : List UInt8) (k : Nat) (c : UInt8) (r : List UInt8) (hk : k ≤ l.length) (h : l.drop k = c :: r) (hs : ¬ (c :: r).length < Vn.need c.toNat) (ht : Vn.vsz (Vn.tell ((c :: r).take (Vn.need c.toNat))) = Vn.need c.toNat) :
    vget l k = (Vn.tell ((c :: r).take (Vn.need c.toNat)), k + Vn.need c.toNat, 0) := by
  rw [vget, if_neg (by omega), Int.toNat_natCast, h]
  simp only [if_neg hs, if_pos ht]

theorem get_facts (s : ByteArray) (k m : Nat) (hk : k < s.size) (hm : m = Vn.need s[k].toNat) (hsh : k + m ≤ s.size) :
    Hid (Vn.tell ((s.data.toList.drop k).take m) ≤ 18446744073709551615 ∧
      (∃ x0 : 1 ≤ (s.extract k (k + m)).size, (s.extract k (k + m)).size = m ∧ Vn.need ((s.extract k (k + m))[0]'x0).toNat = (s.extract k (k + m)).size ∧ (s.extract k (k + m)).data.toList = (s.data.toList.drop k).take m) ∧
      if Vn.vsz (Vn.tell ((s.data.toList.drop k).take m)) = m then vget s.data.toList k = (Vn.tell ((s.data.toList.drop k).take m), k + m, 0) else vget s.data.toList k = (0, 0, 4)) := by
  have hl := size_len s
  have hc := (s[k]).toNat_lt
  have hp := Vn.need_pos _ hc
  rw [← hm] at hp
  obtain ⟨x0, _, xs, xc, xl, hd⟩ := extract_at s k m hsh hp.1
  have hlen : ¬ (s[k] :: s.data.toList.drop (k + 1)).length < Vn.need s[k].toNat := by rw [← hd, List.length_drop]; omega
  refine ⟨?_, ⟨x0, xs, by rw [xc, xs, hm], xl⟩, ?_⟩
  · rw [hd]
    have h := (tell_eq s[k] (((s.data.toList.drop (k + 1)).take (m - 1))) (by
      simp only [List.length_take, List.length_drop]
      rw [← hm, hl]; omega)).2
    rw [show m = m - 1 + 1 by omega, List.take_succ_cons]
    exact h
  · split
    · rename_i h
      rw [hd, hm] at h ⊢
      exact vget_ok s.data.toList k _ _ (by omega) hd hlen h
    · rename_i h
      rw [hd, hm] at h
      exact vget_form s.data.toList k _ _ (by omega) hd hlen h

set_option maxHeartbeats 1000000 in
theorem get_any (s : ByteArray) (a : Int) (w : World) (hs : s.size ≤ maxLen) (h1 : -9223372036854775808 ≤ a) (h2 : a ≤ 9223372036854775807) (hT : Tab w) :
    Calls Tryd.prog 72 #[.string s, .int .i64 a] w fun e w' => e = .returned (tup (vget s.data.toList a)) ∧ Kept w w' := by
  unfold maxLen at hs
  have hl := size_len s
  by_cases hn : a < 0
  · have Hf := Lib.hid (tup_mk 0 0 1 _ (vget_arg s.data.toList a (.inl hn)))
    clear hl
    go_enter Tryd.func72, Tryd.ntmps72
    go_wp2
    go_ret3
    exact ⟨Hf.out, Kept.refl _⟩
  obtain ⟨k, rfl⟩ := Int.eq_ofNat_of_zero_le (show 0 ≤ a by omega)
  by_cases hb : s.size < k
  · have Hf := Lib.hid (tup_mk 0 0 1 _ (vget_arg s.data.toList k (.inr (by omega))))
    clear hl
    go_enter Tryd.func72, Tryd.ntmps72
    go_wp2
    go_ret3
    exact ⟨Hf.out, Kept.refl _⟩
  by_cases he : k = s.size
  · subst he
    have Hf := Lib.hid (tup_mk 0 0 3 _ (vget_end s.data.toList s.size (by omega)))
    clear hl
    go_enter Tryd.func72, Tryd.ntmps72
    go_wp2
    go_ret3
    exact ⟨Hf.out, Kept.refl _⟩
  have hk : k < s.size := by omega
  have hc := (s[k]).toNat_lt
  obtain ⟨hm1, hm9⟩ := Vn.need_pos _ hc
  by_cases hsh : s.size - k < Vn.need s[k].toNat
  · obtain ⟨_, _, _, _, _, hd⟩ := extract_at s k 1 (by omega) (by omega)
    have Hf := Lib.hid (tup_mk 0 0 3 _ (vget_short s.data.toList k _ _ (by omega) hd (by rw [← hd, List.length_drop]; omega)))
    clear hl hd
    go_enter Tryd.func72, Tryd.ntmps72
    go_wp2_with fail
    refine (sizeBehind_any _ _ (by omega) (by omega) hT).mono ?_
    rintro e w' ⟨rfl, rfl⟩
    rw [Int.toNat_natCast]
    go_wp2
    go_ret3
    exact ⟨Hf.out, Kept.refl _⟩
  · obtain ⟨m, hm⟩ : ∃ m, m = Vn.need s[k].toNat := ⟨_, rfl⟩
    have HF := get_facts s k m hk hm (by omega)
    rw [← hm] at hm1 hm9 hsh
    have hkm : k + m ≤ s.size := by omega
    have hb2 := HF.out.1
    have Hm := Lib.hid hm
    clear hl hm
    go_enter Tryd.func72, Tryd.ntmps72
    go_wp2_with fail
    refine (sizeBehind_any _ _ (by omega) (by omega) hT).mono ?_
    rintro e w' ⟨rfl, rfl⟩
    rw [Int.toNat_natCast, ← Hm.out]
    go_wp2_with fail
    obtain ⟨x0, x1, x2, x3⟩ := HF.out.2.1
    refine (tell_any (s.extract k (k + m)) _ x0 (by rw [x1]; exact hm9) x2 hT).mono ?_
    rintro e w1 ⟨rfl, hk1⟩
    rw [x3]
    clear x0 x1 x2 x3
    have hT1 := hT.kept hk1
    obtain ⟨T, hTl⟩ : ∃ T, T = Vn.tell ((s.data.toList.drop k).take m) := ⟨_, rfl⟩
    rw [← hTl] at hb2 ⊢
    have HTl := Lib.hid hTl
    clear hTl
    go_wp2_with fail
    refine (size_any _ _ (by omega) (by omega) hT1).mono ?_
    rintro e w2 ⟨rfl, rfl⟩
    rw [Int.toNat_natCast]
    have hv := HF.out.2.2
    rw [← HTl.out] at hv
    by_cases hz : Vn.vsz T = m
    · rw [if_pos hz] at hv
      have Hf := Lib.hid (tup_mk _ _ _ _ hv)
      clear hv
      rw [hz]
      have Hz := Lib.hid hz
      clear hz
      go_wp2
      go_ret3
      exact ⟨Hf.out, hk1⟩
    · rw [if_neg hz] at hv
      have Hf := Lib.hid (tup_mk _ _ _ _ hv)
      clear hv
      go_wp2
      go_ret3
      exact ⟨Hf.out, hk1⟩
end Go.Proofs.YtenhncohhikllaaDoor

namespace Go.Proofs.YtenhncohhikllaaDoor
open Go.ChangeShapes Go.WideShapes Go.ChangeAt Go.RowKit

theorem str_append (l : List UInt8) (s : ByteArray) : (ByteArray.mk l.toArray) ++ s = ByteArray.mk (l ++ s.data.toList).toArray := by
  apply ByteArray.ext
  simp

set_option maxHeartbeats 1000000 in
theorem text_any (s : ByteArray) (w : World) (hs : s.size ≤ 140737488355328) (hT : Tab w) :
    Calls Tryd.prog 79 #[.string s] w fun e w' => e = .returned (str (Vn.vput s.size ++ s.data.toList)) ∧ Kept w w' := by
  have Hl := Lib.hid (Vn.vput_length s.size)
  have hz := Vn.vsz_pos s.size
  go_enter Tryd.func79, Tryd.ntmps79
  go_wp2_with fail
  refine (put_any _ _ (by omega) (by omega) hT).mono ?_
  rintro e w' ⟨rfl, hk⟩
  rw [Int.toNat_natCast]
  obtain ⟨p, hp⟩ : ∃ p : ByteArray, p = ⟨(Vn.vput s.size).toArray⟩ := ⟨_, rfl⟩
  have hp2 : p.size ≤ 9 := by rw [hp]; show (Vn.vput s.size).toArray.size ≤ 9; rw [List.size_toArray, Hl.out]; exact hz.2
  rw [show str (Vn.vput s.size) = .string p from by rw [hp]; rfl]
  have Hp := Lib.hid hp
  clear hp
  go_wp2
  go_ret
  exact ⟨by rw [Hp.out, str_append]; rfl, hk⟩

/-- what Cut answers -/
def vcut (l : List UInt8) (a : Int) : List UInt8 × Nat × Nat :=
  if (vget l a).2.2 ≠ 0 then ([], 0, (vget l a).2.2) else if 65536 < (vget l a).1 then ([], 0, 2) else
  if l.length - (vget l a).2.1 < (vget l a).1 then ([], 0, 3) else ((l.drop (vget l a).2.1).take (vget l a).1, (vget l a).2.1 + (vget l a).1, 0)
def tups (x : List UInt8 × Nat × Nat) : Value := .tuple #[str x.1, .int .i64 x.2.1, .int .i64 x.2.2]

theorem vget_le (l : List UInt8) (a : Int) : (vget l a).1 ≤ 18446744073709551615 ∧ (vget l a).2.1 ≤ l.length ∧ (vget l a).2.2 ≤ 4 := by
  unfold vget
  split
  · simp
  rename_i h
  split
  · simp
  rename_i c r hd
  have hc := c.toNat_lt
  have hp := Vn.need_pos _ hc
  have hl : l.length = a.toNat + (c :: r).length := by rw [← hd, List.length_drop]; omega
  split
  · simp
  rename_i h2
  split
  · refine ⟨?_, by simp only; omega, by simp⟩
    have ht := (tell_eq c (r.take (Vn.need c.toNat - 1)) (by
      rw [List.length_take]
      simp only [List.length_cons] at h2
      omega)).2
    simp only
    rw [show Vn.need c.toNat = Vn.need c.toNat - 1 + 1 by omega, List.take_succ_cons]
    exact ht
  · simp

set_option maxHeartbeats 1000000 in
theorem cut_any (s : ByteArray) (a : Int) (w : World) (hs : s.size ≤ 140737488355328) (h1 : -9223372036854775808 ≤ a) (h2 : a ≤ 9223372036854775807) (hT : Tab w) :
    Calls Tryd.prog 86 #[.string s, .int .i64 a] w fun e w' => e = .returned (tups (vcut s.data.toList a)) ∧ Kept w w' := by
  have hm : s.size ≤ maxLen := by unfold maxLen; omega
  have Hl := Lib.hid (size_len s)
  obtain ⟨g1, g2, g3⟩ := vget_le s.data.toList a
  rw [Hl.out] at g2
  have Hv : Hid (vcut s.data.toList a = vcut s.data.toList a) := rfl
  have hv := Hv.out
  conv at hv => rhs; unfold vcut
  clear Hv
  obtain ⟨⟨n, t, e0⟩, hg⟩ : ∃ x, x = vget s.data.toList a := ⟨_, rfl⟩
  rw [← hg] at g1 g2 g3 hv
  simp only at g1 g2 g3 hv
  have Hg := Lib.hid hg
  have Hv := Lib.hid hv
  clear hg hv
  go_enter Tryd.func86, Tryd.ntmps86
  go_wp2_with fail
  refine (get_any s a _ hm h1 h2 hT).mono ?_
  rintro e w' ⟨rfl, hk⟩
  rw [← Hg.out]
  unfold tup
  simp only
  by_cases b1 : e0 = 0
  · subst b1
    by_cases b2 : 65536 < n
    · go_wp2
      go_ret3
      refine ⟨?_, hk⟩
      rw [Hv.out, if_neg (by simp), if_pos b2]
      rfl
    · by_cases b3 : s.size - t < n
      · go_wp2
        go_ret3
        refine ⟨?_, hk⟩
        rw [Hv.out, Hl.out, if_neg (by simp), if_neg b2, if_pos b3]
        rfl
      · have b4 : t + n ≤ s.size := by omega
        have hx : (s.extract t (t + n)).size ≤ 281474976710656 := by simp [ByteArray.size_extract]; omega
        have Hx := Lib.hid hx
        clear hx
        go_wp2_with fail
        refine (clone_any _ _ Hx.out).mono ?_
        rintro e w2 ⟨rfl, hk2⟩
        go_wp2
        go_ret3
        refine ⟨?_, hk.trans hk2⟩
        rw [Hv.out, Hl.out, if_neg (by simp), if_neg b2, if_neg b3]
        have he : s.extract t (t + n) = ⟨((s.data.toList.drop t).take n).toArray⟩ := by
          apply ByteArray.ext
          apply Array.toList_inj.1
          simp [ByteArray.data_extract, List.extract_eq_take_drop]
        rw [he]
        rfl
  · go_wp2
    go_ret3
    refine ⟨?_, hk⟩
    rw [Hv.out, if_pos b1]
    rfl
end Go.Proofs.YtenhncohhikllaaDoor

namespace Go.Proofs.YtenhncohhikllaaDoor
open Go.ChangeShapes Go.WideShapes Go.ChangeAt Go.RowKit

theorem vget_put (s t : List UInt8) (n : Nat) (h : n < 18446744073709551616) : vget (s ++ (Vn.vput n ++ t)) s.length = (n, s.length + Vn.vsz n, 0) := by
  obtain ⟨c, r, h1, h2, h3⟩ := Vn.vput_head n h
  have hl := Vn.vput_length n
  rw [h1] at hl
  have hd : (s ++ (Vn.vput n ++ t)).drop s.length = c :: (r ++ t) := by rw [List.drop_left, h1]; rfl
  have htk : (c :: (r ++ t)).take (Vn.need c.toNat) = c :: r := by
    rw [h2, ← hl, ← List.cons_append]
    exact List.take_left
  rw [vget_ok _ s.length c (r ++ t) (by simp) hd (by rw [h2, ← hl]; simp only [List.length_cons, List.length_append]; omega) (by rw [htk, h3, h2]), htk, h3, h2]
theorem vget_cut (n i : Nat) (h : n < 18446744073709551616) (hi : i < Vn.vsz n) : vget ((Vn.vput n).take i) 0 = (0, 0, 3) := by
  obtain ⟨c, r, h1, h2, h3⟩ := Vn.vput_head n h
  have hl := Vn.vput_length n
  rw [h1] at hl ⊢
  cases i with
  | zero => exact vget_end _ _ (by simp)
  | succ i =>
    rw [List.take_succ_cons]
    refine vget_short _ 0 c (r.take i) (Nat.zero_le _) rfl ?_
    rw [h2]
    simp only [List.length_cons, List.length_take]
    omega
theorem vcut_of (l : List UInt8) (a : Int) (n t : Nat) (h : vget l a = (n, t, 0)) (hn : n ≤ 65536) (hl : t + n ≤ l.length) : vcut l a = ((l.drop t).take n, t + n, 0) := by
  unfold vcut
  rw [h]
  simp only
  rw [if_neg (by simp), if_neg (by omega), if_neg (by omega)]
theorem vcut_cut (s : List UInt8) (j : Nat) (hs : s.length ≤ 65536) (hj : j < Vn.vsz s.length + s.length) : vcut ((Vn.vput s.length ++ s).take j) 0 = ([], 0, 3) := by
  have hp := Vn.vput_length s.length
  by_cases h : j < Vn.vsz s.length
  · unfold vcut
    rw [List.take_append_of_le_length (by omega), vget_cut _ _ (by omega) h]
    simp
  · have hg := vget_put [] (s.take (j - Vn.vsz s.length)) s.length (by omega)
    rw [List.take_append, List.take_of_length_le (by omega), hp]
    simp only [List.nil_append, List.length_nil, Nat.zero_add] at hg
    unfold vcut
    rw [show (0 : Int) = ((0 : Nat) : Int) from rfl, hg]
    simp only
    rw [if_neg (by simp), if_neg (by omega), if_pos (by rw [List.length_append, List.length_take, hp]; omega)]
theorem vcut_text (a s t : List UInt8) (hs : s.length ≤ 65536) : vcut (a ++ (Vn.vput s.length ++ s ++ t)) a.length = (s, a.length + Vn.vsz s.length + s.length, 0) := by
  have hp := Vn.vput_length s.length
  have hg := vget_put a (s ++ t) s.length (by omega)
  rw [List.append_assoc]
  rw [vcut_of _ _ _ _ hg hs (by simp only [List.length_append, hp]; omega)]
  have hd : (a ++ (Vn.vput s.length ++ (s ++ t))).drop (a.length + Vn.vsz s.length) = s ++ t := by
    rw [← hp, ← List.append_assoc, ← List.length_append, List.drop_left]
  rw [hd, List.take_left]
theorem vget_err (l : List UInt8) (a : Int) (h : (vget l a).2.2 ≠ 0) : vget l a = (0, 0, (vget l a).2.2) := by
  unfold vget at h ⊢
  split
  · rfl
  rename_i h1
  rw [if_neg h1] at h
  split
  · rfl
  rename_i c r hd
  rw [hd] at h
  simp only at h
  split
  · rfl
  rename_i h2
  rw [if_neg h2] at h
  split
  · rename_i h3
    rw [if_pos h3] at h
    simp at h
  · rfl
/-- what is got, put, is the bytes of which it was -/
theorem vput_got (l : List UInt8) (n t : Nat) (h : vget l 0 = (n, t, 0)) : 0 < t ∧ t ≤ l.length ∧ n < 18446744073709551616 ∧ Vn.vput n = l.take t := by
  have hle := vget_le l 0
  rw [h] at hle
  simp only at hle
  cases l with
  | nil => rw [vget_end [] 0 rfl] at h; cases h
  | cons c r =>
    have hc := c.toNat_lt
    have hp := Vn.need_pos _ hc
    by_cases h2 : (c :: r).length < Vn.need c.toNat
    · rw [show (0 : Int) = ((0 : Nat) : Int) from rfl, vget_short (c :: r) 0 c r (Nat.zero_le _) rfl h2] at h
      cases h
    by_cases h3 : Vn.vsz (Vn.tell ((c :: r).take (Vn.need c.toNat))) = Vn.need c.toNat
    · rw [show (0 : Int) = ((0 : Nat) : Int) from rfl, vget_ok (c :: r) 0 c r (Nat.zero_le _) rfl h2 h3] at h
      simp only [Prod.mk.injEq, Nat.zero_add, and_true] at h
      obtain ⟨rfl, rfl⟩ := h
      refine ⟨by omega, hle.2.1, by omega, ?_⟩
      obtain ⟨m, hm⟩ : ∃ m, Vn.need c.toNat = m + 1 := ⟨Vn.need c.toNat - 1, by omega⟩
      have hlen : (c :: r.take m).length = Vn.need c.toNat := by rw [hm] at h2 ⊢; simp only [List.length_cons, List.length_take] at h2 ⊢; omega
      rw [hm, List.take_succ_cons] at h3 ⊢
      exact Vn.vput_tell c (r.take m) hlen (by rw [hm]; exact h3)
    · rw [show (0 : Int) = ((0 : Nat) : Int) from rfl, vget_form (c :: r) 0 c r (Nat.zero_le _) rfl h2 h3] at h
      cases h
end Go.Proofs.YtenhncohhikllaaDoor
