/-
  The walk of the law VarintSizes.
-/
import Derived.Test.YtehcmdpnkappeaaDoorVfixed
namespace Go.Proofs.YtehcmdpnkappeaaDoor
open Go.ChangeShapes Go.WideShapes Go.ChangeAt Go.RowKit

/-- n has j whole bytes so far -/
def Taken (n j : Nat) : Prop := j ≤ 8 ∧ (j = 0 ∨ 256 ^ (j - 1) ≤ n)
theorem taken_next (n j : Nat) (hn : n < 18446744073709551616) (hp : 0 < n / 256 ^ j) : Taken n (j + 1) ∧ n / 256 ^ j / 256 = n / 256 ^ (j + 1) := by
  have hle : 256 ^ j ≤ n := by
    rcases Nat.lt_or_ge n (256 ^ j) with h' | h'
    · rw [Nat.div_eq_of_lt h'] at hp; omega
    · exact h'
  refine ⟨⟨?_, .inr hle⟩, by rw [Nat.div_div_eq_div_mul, Nat.pow_succ]⟩
  rcases Nat.lt_or_ge j 8 with h8 | h8
  · omega
  · have : 256 ^ 8 ≤ 256 ^ j := Nat.pow_le_pow_right (by decide) h8
    omega
theorem taken_end (n j : Nat) (h : Taken n j) (hz : n / 256 ^ j = 0) (hn : 67823 < n) : Vn.vsz n = max 4 (1 + j) := by
  have hlt : n < 256 ^ j := by
    rcases Nat.lt_or_ge n (256 ^ j) with h' | h'
    · exact h'
    · have := Nat.div_pos h' (Nat.pow_pos (by decide : 0 < 256)); omega
  obtain ⟨h8, h1⟩ := h
  unfold Vn.vsz
  match j, h8 with
  | 0, _ | 1, _ | 2, _ | 3, _ | 4, _ | 5, _ | 6, _ | 7, _ | 8, _ => simp at h1 hlt; (repeat' split) <;> simp <;> omega

set_option maxHeartbeats 1000000 in
set_option maxRecDepth 100000 in
theorem sizes_walk (n : Int) (w : World) (h0 : 0 ≤ n) (h1 : n ≤ 18446744073709551615) (hT : Tab w) :
    Calls Tryd.prog 9 #[.int .u64 n] w fun e w' => e = .returned (.bool true) ∧ Kept w w' := by
  obtain ⟨N, rfl⟩ := Int.eq_ofNat_of_zero_le h0
  go_enter Tryd.func9, Tryd.ntmps9
  go_wp2
  go_loop [3, 4] (fun k m => ∃ j : Nat, Taken N j ∧ k = .int .i64 (1 + j : Nat) ∧ m = .int .u64 (N / 256 ^ j : Nat)) (fun _ m => (intOf m).toNat)
  case atStart => exact ⟨0, ⟨by omega, .inl rfl⟩, rfl, by simp⟩
  case round =>
    obtain ⟨j, hj, rfl, rfl⟩ := hrel
    have hj8 := hj.1
    obtain ⟨q, hq⟩ : ∃ q, q = N / 256 ^ j := ⟨_, rfl⟩
    rw [← hq]
    have Hq := Lib.hid hq
    clear hq
    have hqn : q ≤ N := by rw [Hq.out]; exact Nat.div_le_self _ _
    by_cases hp : 0 < q
    · have hn := taken_next N j (by omega) (by rw [← Hq.out]; exact hp)
      rw [← Hq.out] at hn
      have Hn := Lib.hid hn
      clear hn
      go_wp2
      go_round
      case rel => exact ⟨j + 1, Hn.out.1, by go_num, by rw [← Hn.out.2]; go_num⟩
      case measure => simp [intOf]; omega
    · have hz : q = 0 := by omega
      subst hz
      have hcase : (N ≤ 240 ∧ Hid (Vn.vsz N = 1)) ∨ (240 < N ∧ N ≤ 2287 ∧ Hid (Vn.vsz N = 2)) ∨ (2287 < N ∧ N ≤ 67823 ∧ Hid (Vn.vsz N = 3)) ∨ (67823 < N ∧ 1 + j ≤ 4 ∧ Hid (Vn.vsz N = 4)) ∨ (67823 < N ∧ 4 < 1 + j ∧ Hid (Vn.vsz N = 1 + j)) := by
        rcases Vn.vsz_cases N (by omega) with ⟨a, b⟩ | ⟨a, b, c⟩ | ⟨a, b, c⟩ | ⟨a, _⟩
        · exact .inl ⟨a, b⟩
        · exact .inr (.inl ⟨a, b, c⟩)
        · exact .inr (.inr (.inl ⟨a, b, c⟩))
        · have := taken_end N j hj Hq.out.symm a
          by_cases h4 : 1 + j ≤ 4
          · exact .inr (.inr (.inr (.inl ⟨a, h4, by show _ = _; omega⟩)))
          · exact .inr (.inr (.inr (.inr ⟨a, by omega, by show _ = _; omega⟩)))
      have Hl := Lib.hid (Vn.vput_length N)
      rcases hcase with ⟨a, hv⟩ | ⟨a, b, hv⟩ | ⟨a, b, hv⟩ | ⟨a, b, hv⟩ | ⟨a, b, hv⟩
      all_goals
        go_wp2_with fail
        refine (size_any _ _ (by omega) (by omega) hT).mono ?_
        rintro e w' ⟨rfl, rfl⟩
        rw [Int.toNat_natCast, hv.out]
        (try rw [show max (4 : Int) (1 + (j : Int)) = 4 by omega])
        (try rw [show max (4 : Int) (1 + (j : Int)) = 1 + (j : Int) by omega, show ((1 + j : Nat) : Int) = 1 + (j : Int) by omega])
        go_wp2_with fail
        refine (put_any _ _ (by omega) (by omega) hT).mono ?_
        rintro e w1 ⟨rfl, k1⟩
        rw [Int.toNat_natCast]
        obtain ⟨p, hp1, hp2⟩ : ∃ p : ByteArray, str (Vn.vput N) = .string p ∧ p.size = Vn.vsz N := ⟨⟨(Vn.vput N).toArray⟩, rfl, by rw [← Hl.out]; rfl⟩
        rw [hv.out] at hp2
        rw [hp1]
        clear hp1
        go_wp2_with fail
        refine (fixed_any _ (hT.kept k1)).mono ?_
        rintro e w2 ⟨rfl, k2⟩
        go_wp2
        go_ret
        exact ⟨rfl, k1.trans k2⟩
end Go.Proofs.YtehcmdpnkappeaaDoor
