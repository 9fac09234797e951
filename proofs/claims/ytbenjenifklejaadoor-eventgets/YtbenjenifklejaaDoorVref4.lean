/-
  The document's own Get and Cut, whatever is handed in.
-/
import Derived.Test.YtbenjenifklejaaDoorVref3
namespace Go.Proofs.YtbenjenifklejaaDoor
open Go.ChangeShapes Go.WideShapes Go.ChangeAt Go.RowKit

theorem getIs (s : ByteArray) (k m : Nat) (hk : k < s.size) (hm : m = Vn.need s[k].toNat) (hfit : k + m ≤ s.size) : GetIs s k m (Vn.tell ((s.data.toList.drop k).take m)) := by
  have hF := get_facts s k m hk hm hfit
  obtain ⟨hb, ⟨x0, x1, x2, x3⟩, hv⟩ := hF.out
  obtain ⟨q, hq, sq, lq⟩ := name_put (Vn.tell ((s.data.toList.drop k).take m))
  refine ⟨q, hq, ?_⟩
  rw [lq, toList_eq, x3]
  have hd := at_len s k hk
  by_cases h : Vn.vsz (Vn.tell ((s.data.toList.drop k).take m)) = m
  · rw [if_pos h] at hv
    refine .inl ⟨?_, hv⟩
    rw [beq_iff_eq]
    have hp := Vn.need_pos _ (s[k]).toNat_lt
    obtain ⟨j, hj⟩ : ∃ j, m = j + 1 := ⟨m - 1, by omega⟩
    rw [hd, hj, List.take_succ_cons] at h ⊢
    refine Vn.vput_tell _ _ ?_ (by rw [h, ← hj, hm])
    rw [← hm, hj, List.length_cons, List.length_take, List.length_drop, size_len]
    omega
  · rw [if_neg h] at hv
    refine .inr ⟨?_, hv⟩
    rw [beq_eq_false_iff_ne]
    intro e
    have hl := congrArg List.length e
    rw [Vn.vput_length, List.length_take, List.length_drop, size_len] at hl
    omega

/-- which class a first byte is of -/
theorem need_cases (c kk : Nat) (hc : c < 256) (h : kk + 1 = Vn.need c) : (c ≤ 240 ∧ kk = 0) ∨ (240 < c ∧ c ≤ 248 ∧ kk = 1) ∨ (c = 249 ∧ kk = 2) ∨ (249 < c ∧ kk + 247 = c) := by
  unfold Vn.need at h
  (repeat' split at h) <;> omega

theorem refget_fits (s : ByteArray) (k kk : Nat) (w : World) (hs : s.size ≤ 1000) (hk : k < s.size) (hkk : kk + 1 = Vn.need s[k].toNat) (hfit : k + 1 + kk ≤ s.size) :
    Calls Tryd.prog 49 #[.string s, .int .i64 (k : Int)] w fun e w' => e = .returned (tup (vget s.data.toList k)) ∧ Kept w w' := by
  have hG := getIs s k (kk + 1) hk hkk (by omega)
  have hb := (get_facts s k (kk + 1) hk hkk (by omega)).out.1
  have ht : (s.data.toList.drop k).take (kk + 1) = s[k] :: (after s k).take kk := by rw [at_len s k hk, List.take_succ_cons]; rfl
  rw [ht] at hG hb
  rcases need_cases _ kk (s[k]).toNat_lt hkk with ⟨a1, rfl⟩ | ⟨a1, a2, rfl⟩ | ⟨a1, rfl⟩ | ⟨a1, a2⟩
  · have hT : Vn.tell (s[k] :: (after s k).take 0) = (s[k]).toNat := by rw [Vn.tell, if_pos a1]
    rw [hT] at hG hb
    exact refget_one s k _ w hs hk hfit a1 rfl hb hG
  · have hT : Vn.tell (s[k] :: (after s k).take 1) = 240 + 256 * ((s[k]).toNat - 241) + Vn.num ((after s k).take 1) := by rw [Vn.tell, if_neg (by omega), if_pos a2]
    exact refget_two s k _ w hs hk hfit a1 a2 hT hb hG
  · have hT : Vn.tell (s[k] :: (after s k).take 2) = 2288 + Vn.num ((after s k).take 2) := by rw [Vn.tell, if_neg (by omega), if_neg (by omega), if_pos a1]
    exact refget_three s k _ w hs hk hfit a1 hT hb hG
  · have hT : Vn.tell (s[k] :: (after s k).take kk) = Vn.num ((after s k).take kk) := by rw [Vn.tell, if_neg (by omega), if_neg (by omega), if_neg (by omega)]
    exact refget_more s k kk _ w hs hk hfit a1 a2 hT hb hG

set_option maxHeartbeats 1000000 in
set_option maxRecDepth 100000 in
theorem refget_any (s : ByteArray) (a : Int) (w : World) (hs : s.size ≤ 1000) (_h1 : -9223372036854775808 ≤ a) (_h2 : a ≤ 9223372036854775807) :
    Calls Tryd.prog 49 #[.string s, .int .i64 a] w fun e w' => e = .returned (tup (vget s.data.toList a)) ∧ Kept w w' := by
  have hl := size_len s
  by_cases hn : a < 0
  · have Hf := Lib.hid (tup_mk 0 0 1 _ (vget_arg s.data.toList a (.inl hn)))
    clear hl
    go_enter Tryd.func49, Tryd.ntmps49
    go_wp2
    go_ret3
    exact ⟨Hf.out, Kept.refl _⟩
  obtain ⟨k, rfl⟩ := Int.eq_ofNat_of_zero_le (show 0 ≤ a by omega)
  by_cases hb : s.size < k
  · have Hf := Lib.hid (tup_mk 0 0 1 _ (vget_arg s.data.toList k (.inr (by omega))))
    clear hl
    go_enter Tryd.func49, Tryd.ntmps49
    go_wp2
    go_ret3
    exact ⟨Hf.out, Kept.refl _⟩
  by_cases he : k = s.size
  · subst he
    have Hf := Lib.hid (tup_mk 0 0 3 _ (vget_end s.data.toList s.size (by omega)))
    clear hl
    go_enter Tryd.func49, Tryd.ntmps49
    go_wp2
    go_ret3
    exact ⟨Hf.out, Kept.refl _⟩
  have hk : k < s.size := by omega
  have hc := (s[k]).toNat_lt
  have hp := Vn.need_pos _ hc
  obtain ⟨kk, hkk⟩ : ∃ kk, kk + 1 = Vn.need s[k].toNat := ⟨Vn.need s[k].toNat - 1, by omega⟩
  by_cases hfit : k + 1 + kk ≤ s.size
  · exact refget_fits s k kk w hs hk hkk hfit
  · have hd := at_len s k hk
    have Hf := Lib.hid (tup_mk 0 0 3 _ (vget_short s.data.toList k _ _ (by omega) hd (by rw [← hd, List.length_drop, ← hkk]; omega)))
    have hcls := need_cases _ kk hc hkk
    clear hl hd hkk hp
    rcases hcls with ⟨a1, rfl⟩ | ⟨a1, a2, rfl⟩ | ⟨a1, rfl⟩ | ⟨a1, a2⟩
    · exact absurd hfit (by omega)
    all_goals
      go_enter Tryd.func49, Tryd.ntmps49
      go_wp2
      go_ret3
      exact ⟨Hf.out, Kept.refl _⟩

set_option maxHeartbeats 1000000 in
theorem refcut_any (s : ByteArray) (a : Int) (w : World) (hs : s.size ≤ 1000) (h1 : -9223372036854775808 ≤ a) (h2 : a ≤ 9223372036854775807) :
    Calls Tryd.prog 48 #[.string s, .int .i64 a] w fun e w' => e = .returned (tups (vcut s.data.toList a)) ∧ Kept w w' := by
  have Hl := Lib.hid (size_len s)
  obtain ⟨g1, g2, g3⟩ := vget_le s.data.toList a
  rw [Hl.out] at g2
  have Hv : Hid (vcut s.data.toList a = vcut s.data.toList a) := rfl
  have hv := Hv.out
  conv at hv => rhs; unfold vcut
  clear Hv
  obtain ⟨⟨n, t, e0⟩, hg⟩ : ∃ x, x = vget s.data.toList a := ⟨_, rfl⟩
  rw [← hg] at g1 g2 g3 hv
  simp only at g1 g2 g3 hv
  have Hg := Lib.hid hg
  have Hv := Lib.hid hv
  clear hg hv
  go_enter Tryd.func48, Tryd.ntmps48
  go_wp2_with fail
  refine (refget_any s a _ hs h1 h2).mono ?_
  rintro e w' ⟨rfl, hk⟩
  rw [← Hg.out]
  unfold tup
  simp only
  by_cases b1 : e0 = 0
  · subst b1
    by_cases b2 : 65536 < n
    · go_wp2
      go_ret3
      refine ⟨?_, hk⟩
      rw [Hv.out, if_neg (by simp), if_pos b2]
      rfl
    · by_cases b3 : s.size - t < n
      · go_wp2
        go_ret3
        refine ⟨?_, hk⟩
        rw [Hv.out, Hl.out, if_neg (by simp), if_neg b2, if_pos b3]
        rfl
      · have b4 : t + n ≤ s.size := by omega
        go_wp2
        go_ret3
        refine ⟨?_, hk⟩
        rw [Hv.out, Hl.out, if_neg (by simp), if_neg b2, if_neg b3]
        have he : s.extract t (t + n) = ⟨((s.data.toList.drop t).take n).toArray⟩ := by
          apply ByteArray.ext
          apply Array.toList_inj.1
          simp [ByteArray.data_extract, List.extract_eq_take_drop]
        rw [he]
        rfl
  · go_wp2
    go_ret3
    refine ⟨?_, hk⟩
    rw [Hv.out, if_pos b1]
    rfl
end Go.Proofs.YtbenjenifklejaaDoor
