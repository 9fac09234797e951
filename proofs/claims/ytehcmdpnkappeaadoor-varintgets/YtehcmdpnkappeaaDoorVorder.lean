/-
  The order of numbers' bytes is the numbers'.
-/
import Derived.Test.YtehcmdpnkappeaaDoorVless
import Derived.Test.YtehcmdpnkappeaaDoorVput
namespace Go.Proofs.YtehcmdpnkappeaaDoor
open Go.ChangeShapes Go.WideShapes Go.ChangeAt Go.RowKit

theorem bl_longer : ∀ (x y p q : List UInt8), x.length = y.length → Op.bytesLess x y = true → Op.bytesLess (x ++ p) (y ++ q) = true
  | [], [], _, _, _, h => by simp [Op.bytesLess] at h
  | [], _ :: _, _, _, h, _ => by simp at h
  | _ :: _, [], _, _, h, _ => by simp at h
  | a :: x, b :: y, p, q, hl, h => by
    rw [List.cons_append, List.cons_append]
    rw [bl_cons] at h ⊢
    rcases h with h | ⟨rfl, h⟩
    · exact .inl h
    · exact .inr ⟨rfl, bl_longer x y p q (by simpa using hl) h⟩
theorem be_lt : ∀ (k r s : Nat), r < s → s < 256 ^ k → Op.bytesLess (Vn.be k r) (Vn.be k s) = true
  | 0, r, s, h, hs => by simp at hs; omega
  | k + 1, r, s, h, hs => by
    rw [Nat.pow_succ] at hs
    rw [Vn.be, Vn.be]
    by_cases hq : r / 256 < s / 256
    · exact bl_longer _ _ _ _ (by rw [Vn.be_length, Vn.be_length]) (be_lt k _ _ hq (by omega))
    · have he : r / 256 = s / 256 := by omega
      rw [he, bl_same, bl_cons]
      left
      rw [UInt8.toNat_ofNat', UInt8.toNat_ofNat']
      omega
theorem vsz_mono (a b : Nat) (h : a ≤ b) : Vn.vsz a ≤ Vn.vsz b := by
  unfold Vn.vsz
  by_cases h1 : a ≤ 240
  · rw [if_pos h1]; (repeat' split) <;> omega
  rw [if_neg h1, if_neg (show ¬ b ≤ 240 by omega)]
  by_cases h2 : a ≤ 2287
  · rw [if_pos h2]; (repeat' split) <;> omega
  rw [if_neg h2, if_neg (show ¬ b ≤ 2287 by omega)]
  by_cases h3 : a ≤ 67823
  · rw [if_pos h3]; (repeat' split) <;> omega
  rw [if_neg h3, if_neg (show ¬ b ≤ 67823 by omega)]
  by_cases h4 : a ≤ 16777215
  · rw [if_pos h4]; (repeat' split) <;> omega
  rw [if_neg h4, if_neg (show ¬ b ≤ 16777215 by omega)]
  by_cases h5 : a ≤ 4294967295
  · rw [if_pos h5]; (repeat' split) <;> omega
  rw [if_neg h5, if_neg (show ¬ b ≤ 4294967295 by omega)]
  by_cases h6 : a ≤ 1099511627775
  · rw [if_pos h6]; (repeat' split) <;> omega
  rw [if_neg h6, if_neg (show ¬ b ≤ 1099511627775 by omega)]
  by_cases h7 : a ≤ 281474976710655
  · rw [if_pos h7]; (repeat' split) <;> omega
  rw [if_neg h7, if_neg (show ¬ b ≤ 281474976710655 by omega)]
  by_cases h8 : a ≤ 72057594037927935
  · rw [if_pos h8]; (repeat' split) <;> omega
  rw [if_neg h8, if_neg (show ¬ b ≤ 72057594037927935 by omega)]
  exact Nat.le_refl _

theorem vput_lt (a b : Nat) (h : a < b) (hb : b < 18446744073709551616) : Op.bytesLess (Vn.vput a) (Vn.vput b) = true := by
  have hm := vsz_mono a b (by omega)
  rcases Vn.vsz_cases a (by omega) with ⟨a1, e⟩ | ⟨a1, a2, e⟩ | ⟨a1, a2, e⟩ | ⟨a1, a2, a3, a4⟩ <;> rcases Vn.vsz_cases b hb with ⟨b1, f⟩ | ⟨b1, b2, f⟩ | ⟨b1, b2, f⟩ | ⟨b1, b2, b3, b4⟩
  all_goals (try omega)
  · rw [Vn.vput, Vn.vput, if_pos a1, if_pos b1, bl_cons]
    left; rw [Vn.ofNat_toNat _ (by omega), Vn.ofNat_toNat _ (by omega)]; exact h
  · rw [Vn.vput, Vn.vput, if_pos a1, if_neg (by omega), if_pos b2, bl_cons]
    left; rw [Vn.ofNat_toNat _ (by omega), Vn.ofNat_toNat _ (by omega)]; omega
  · rw [Vn.vput, Vn.vput, if_pos a1, if_neg (by omega), if_neg (by omega), if_pos b2, bl_cons]
    left; rw [Vn.ofNat_toNat _ (by omega)]; show a < 249; omega
  · rw [Vn.vput, Vn.vput, if_pos a1, if_neg (by omega), if_neg (by omega), if_neg (by omega), bl_cons]
    left; rw [Vn.ofNat_toNat _ (by omega), Vn.ofNat_toNat _ (by omega)]; omega
  · rw [Vn.vput, Vn.vput, if_neg (by omega), if_pos a2, if_neg (by omega), if_pos b2, bl_cons, Vn.ofNat_toNat _ (by omega), Vn.ofNat_toNat _ (by omega)]
    by_cases hq : (a - 240) / 256 < (b - 240) / 256
    · left; omega
    · right
      refine ⟨by rw [show (a - 240) / 256 = (b - 240) / 256 by omega], ?_⟩
      rw [bl_cons]
      left
      rw [UInt8.toNat_ofNat', UInt8.toNat_ofNat']
      omega
  · rw [Vn.vput, Vn.vput, if_neg (by omega), if_pos a2, if_neg (by omega), if_neg (by omega), if_pos b2, bl_cons]
    left; rw [Vn.ofNat_toNat _ (by omega)]; show _ < 249; omega
  · rw [Vn.vput, Vn.vput, if_neg (by omega), if_pos a2, if_neg (by omega), if_neg (by omega), if_neg (by omega), bl_cons]
    left; rw [Vn.ofNat_toNat _ (by omega), Vn.ofNat_toNat _ (by omega)]; omega
  · rw [Vn.vput, Vn.vput, if_neg (by omega), if_neg (by omega), if_pos a2, if_neg (by omega), if_neg (by omega), if_pos b2, bl_cons]
    right; exact ⟨rfl, be_lt 2 _ _ (by omega) (by omega)⟩
  · rw [Vn.vput, Vn.vput, if_neg (by omega), if_neg (by omega), if_pos a2, if_neg (by omega), if_neg (by omega), if_neg (by omega), bl_cons]
    left; rw [Vn.ofNat_toNat _ (by omega)]; show 249 < _; omega
  · rw [Vn.vput, Vn.vput, if_neg (by omega), if_neg (by omega), if_neg (by omega), if_neg (by omega), if_neg (by omega), if_neg (by omega), bl_cons, Vn.ofNat_toNat _ (by omega), Vn.ofNat_toNat _ (by omega)]
    by_cases hq : Vn.vsz a < Vn.vsz b
    · left; omega
    · right
      have he : Vn.vsz a = Vn.vsz b := by omega
      rw [he]
      exact ⟨rfl, be_lt _ _ _ h b4⟩
theorem vput_inj (a b : Nat) (ha : a < 18446744073709551616) (hb : b < 18446744073709551616) (h : Vn.vput a = Vn.vput b) : a = b := by
  obtain ⟨c, r, h1, _, h2⟩ := Vn.vput_head a ha
  obtain ⟨d, s, h3, _, h4⟩ := Vn.vput_head b hb
  rw [← h2, ← h4, ← h1, ← h3, h]
end Go.Proofs.YtehcmdpnkappeaaDoor
