/-
  The document's own Get and Cut, whatever is handed in.
-/
import Derived.Test.YtenhncohhikllaaDoorVref2
import Derived.Test.YtenhncohhikllaaDoorVback
import Derived.Test.YtenhncohhikllaaDoorVless
namespace Go.Proofs.YtenhncohhikllaaDoor
open Go.ChangeShapes Go.WideShapes Go.ChangeAt Go.RowKit

/-- the bytes behind a place -/
def after (s : ByteArray) (k : Nat) : List UInt8 := s.data.toList.drop (k + 1)
theorem after_snoc (s : ByteArray) (k i : Nat) (h : k + 1 + i < s.size) : (after s k).take (i + 1) = (after s k).take i ++ [s[k + 1 + i]] := by
  have h' : k + 1 + i < s.data.size := h
  rw [List.take_add_one, after, List.getElem?_drop, Array.getElem?_toList, Array.getElem?_eq_getElem h']
  rfl
theorem num_take_lt (l : List UInt8) (i : Nat) (h : i ≤ 8) : Vn.num (l.take i) < 256 ^ i ∧ Vn.num (l.take i) < 18446744073709551616 := by
  have h1 := Vn.num_lt (l.take i)
  have h2 : 256 ^ (l.take i).length ≤ 256 ^ i := Nat.pow_le_pow_right (by decide) (List.length_take_le _ _)
  have h3 : 256 ^ i ≤ 256 ^ 8 := Nat.pow_le_pow_right (by decide) h
  omega


/-- what Get answers at a place, by the number that is told there -/
def GetIs (s : ByteArray) (k m T : Nat) : Prop :=
  ∃ q : ByteArray, str (Vn.vput T) = .string q ∧ (((q.toList == (s.extract k (k + m)).toList) = true ∧ vget s.data.toList k = (T, k + m, 0)) ∨ ((q.toList == (s.extract k (k + m)).toList) = false ∧ vget s.data.toList k = (0, 0, 4)))

set_option maxHeartbeats 1000000 in
set_option maxRecDepth 100000 in
theorem refget_one (s : ByteArray) (k T : Nat) (w : World) (hs : s.size ≤ 100000) (hk : k < s.size) (hfit : k + 1 + 0 ≤ s.size) (a1 : (s[k]).toNat ≤ 240) (hT : T = (s[k]).toNat)
    (hTb : T ≤ 18446744073709551615) (hV : Hid (GetIs s k (0 + 1) T)) :
    Calls Tryd.prog 62 #[.string s, .int .i64 (k : Int)] w fun e w' => e = .returned (tup (vget s.data.toList k)) ∧ Kept w w' := by
  have hc := (s[k]).toNat_lt
  have d1 : decide ((k : Int) < 0) = false := by simp only [decide_eq_false_iff_not]; omega
  have d2 : decide (s.size < k) = false := by simp only [decide_eq_false_iff_not]; omega
  have d3 : ((k : Int) == (s.size : Int)) = false := by simp only [beq_eq_false_iff_ne]; omega
  have d4 : decide (240 < ((s[k]).toNat : Int)) = false := by simp only [decide_eq_false_iff_not]; omega
  have d5 : (((s[k]).toNat : Int) == 249) = false := by simp only [beq_eq_false_iff_ne]; omega
  have d6 : decide (249 < ((s[k]).toNat : Int)) = false := by simp only [decide_eq_false_iff_not]; omega
  have d7 : decide ((s.size : Int) - (k : Int) - 1 < 0) = false := by simp only [decide_eq_false_iff_not]; omega
  go_enter Tryd.func62, Tryd.ntmps62
  go_wp2
  go_loop [9, 10] (fun n i => ∃ j : Nat, j ≤ 0 ∧ i = .int .i64 j ∧ n = .int .u64 (Vn.num ((after s k).take j) : Nat)) (fun _ i => 0 - (intOf i).toNat)
  case atStart => exact ⟨0, Nat.zero_le _, rfl, by simp [Vn.num]⟩
  case round =>
    obtain ⟨j, hj, rfl, rfl⟩ := hrel
    have hb := num_take_lt (after s k) j (by omega)
    by_cases hlt : j < 0
    · exact absurd hlt (by omega)
    · obtain rfl : j = 0 := by omega
      obtain ⟨nn, hnn⟩ : ∃ nn, nn = Vn.num ((after s k).take 0) := ⟨_, rfl⟩
      have HN := Lib.hid hnn
      rw [← hnn] at hb ⊢
      clear hnn
      go_wp2_with fail
      subst hT
      have s1 : IntKind.i64.wrap ((k : Int) + 1) = (k : Int) + 1 := by rw [IntKind.wrap_i64]; omega
      have s3 : ((k : Int) + 1).toNat = k + 1 := by omega
      have s4 : 0 ≤ (k : Int) + 1 := by omega
      have s5 : (k : Int) + 1 ≤ (s.size : Int) := by omega
      have s6 : (k : Int) ≤ (k : Int) + 1 := by omega
      obtain ⟨q, hq, hcase⟩ := hV.out
      have Hq := Lib.hid hq
      clear hq
      rcases hcase with ⟨hE, hv⟩ | ⟨hE, hv⟩
      · have hf := tup_mk _ _ _ _ hv
        rw [show ((k + (0 + 1) : Nat) : Int) = (k : Int) + 1 by omega] at hf
        have Hf := Lib.hid hf
        clear hv hf
        have hE2 : (q.toList != (s.extract k (k + 1)).toList) = false := by simp [bne, hE]
        go_region_held3 (fun _ => True) (trivial)
          (first | (go_at_call 68; refine (refput_any _ _ (by omega) (by omega)).mono ?_; rintro e w1 ⟨rfl, e1⟩; rw [Int.toNat_natCast, Hq.out]))
        go_wp2
        go_ret3
        exact ⟨Hf.out, (Kept.drew (Kept.refl w)).trans e1⟩
      · have Hf := Lib.hid (tup_mk _ _ _ _ hv)
        clear hv
        have hE2 : (q.toList != (s.extract k (k + 1)).toList) = true := by simp [bne, hE]
        go_region_held3 (fun _ => True) (trivial)
          (first | (go_at_call 68; refine (refput_any _ _ (by omega) (by omega)).mono ?_; rintro e w1 ⟨rfl, e1⟩; rw [Int.toNat_natCast, Hq.out]))
        go_wp2
        go_ret3
        exact ⟨Hf.out, (Kept.drew (Kept.refl w)).trans e1⟩

set_option maxHeartbeats 1000000 in
set_option maxRecDepth 100000 in
theorem refget_two (s : ByteArray) (k T : Nat) (w : World) (hs : s.size ≤ 100000) (hk : k < s.size) (hfit : k + 1 + 1 ≤ s.size) (a1 : 240 < (s[k]).toNat) (a2 : (s[k]).toNat ≤ 248) (hT : Hid (T = 240 + 256 * ((s[k]).toNat - 241) + Vn.num ((after s k).take 1)))
    (hTb : T ≤ 18446744073709551615) (hV : Hid (GetIs s k (1 + 1) T)) :
    Calls Tryd.prog 62 #[.string s, .int .i64 (k : Int)] w fun e w' => e = .returned (tup (vget s.data.toList k)) ∧ Kept w w' := by
  have hc := (s[k]).toNat_lt
  have d1 : decide ((k : Int) < 0) = false := by simp only [decide_eq_false_iff_not]; omega
  have d2 : decide (s.size < k) = false := by simp only [decide_eq_false_iff_not]; omega
  have d3 : ((k : Int) == (s.size : Int)) = false := by simp only [beq_eq_false_iff_ne]; omega
  have d4 : decide (240 < ((s[k]).toNat : Int)) = true := by simp only [decide_eq_true_eq]; omega
  have d5 : (((s[k]).toNat : Int) == 249) = false := by simp only [beq_eq_false_iff_ne]; omega
  have d6 : decide (249 < ((s[k]).toNat : Int)) = false := by simp only [decide_eq_false_iff_not]; omega
  have d7 : decide ((s.size : Int) - (k : Int) - 1 < 1) = false := by simp only [decide_eq_false_iff_not]; omega
  go_enter Tryd.func62, Tryd.ntmps62
  go_wp2
  go_loop [9, 10] (fun n i => ∃ j : Nat, j ≤ 1 ∧ i = .int .i64 j ∧ n = .int .u64 (Vn.num ((after s k).take j) : Nat)) (fun _ i => 1 - (intOf i).toNat)
  case atStart => exact ⟨0, Nat.zero_le _, rfl, by simp [Vn.num]⟩
  case round =>
    obtain ⟨j, hj, rfl, rfl⟩ := hrel
    have hb := num_take_lt (after s k) j (by omega)
    by_cases hlt : j < 1
    · have hb2 : Vn.num ((after s k).take j) < 72057594037927936 := by
        have : 256 ^ j ≤ 256 ^ 7 := Nat.pow_le_pow_right (by decide) (by omega)
        omega
      have hi : k + 1 + j < s.size := by omega
      have Hn : Hid (Vn.num ((after s k).take (j + 1)) = 256 * Vn.num ((after s k).take j) + (s[k + 1 + j]).toNat) := by
        show _ = _
        rw [after_snoc s k j hi, Vn.num_snoc]; omega
      have hbyte := (s[k + 1 + j]).toNat_lt
      go_wp2
      go_round
      case rel => exact ⟨j + 1, by omega, by go_num, by rw [Hn.out]; go_num⟩
      case measure => simp [intOf]; omega
    · obtain rfl : j = 1 := by omega
      obtain ⟨nn, hnn⟩ : ∃ nn, nn = Vn.num ((after s k).take 1) := ⟨_, rfl⟩
      have HN := Lib.hid hnn
      rw [← hnn] at hb ⊢
      clear hnn
      go_wp2_with fail
      rw [show 240 + 256 * (((s[k]).toNat : Int) - 241) + (nn : Int) = (T : Int) by have h1 := hT.out; have h2 := HN.out; omega]
      have s1 : IntKind.i64.wrap ((k : Int) + 1) = (k : Int) + 1 := by rw [IntKind.wrap_i64]; omega
      have s2 : IntKind.i64.wrap ((k : Int) + 1 + 1) = (k : Int) + 1 + 1 := by rw [IntKind.wrap_i64]; omega
      have s3 : ((k : Int) + 1 + 1).toNat = k + (1 + 1) := by omega
      have s4 : 0 ≤ (k : Int) + 1 + 1 := by omega
      have s5 : (k : Int) + 1 + 1 ≤ (s.size : Int) := by omega
      have s6 : (k : Int) ≤ (k : Int) + 1 + 1 := by omega
      obtain ⟨q, hq, hcase⟩ := hV.out
      have Hq := Lib.hid hq
      clear hq
      rcases hcase with ⟨hE, hv⟩ | ⟨hE, hv⟩
      · have hf := tup_mk _ _ _ _ hv
        rw [show ((k + (1 + 1) : Nat) : Int) = (k : Int) + 1 + 1 by omega] at hf
        have Hf := Lib.hid hf
        clear hv hf
        have hE2 : (q.toList != (s.extract k (k + (1 + 1))).toList) = false := by simp [bne, hE]
        go_region_held3 (fun _ => True) (trivial)
          (first | (go_at_call 68; refine (refput_any _ _ (by omega) (by omega)).mono ?_; rintro e w1 ⟨rfl, e1⟩; rw [Int.toNat_natCast, Hq.out]))
        go_wp2
        go_ret3
        exact ⟨Hf.out, (Kept.drew (Kept.refl w)).trans e1⟩
      · have Hf := Lib.hid (tup_mk _ _ _ _ hv)
        clear hv
        have hE2 : (q.toList != (s.extract k (k + (1 + 1))).toList) = true := by simp [bne, hE]
        go_region_held3 (fun _ => True) (trivial)
          (first | (go_at_call 68; refine (refput_any _ _ (by omega) (by omega)).mono ?_; rintro e w1 ⟨rfl, e1⟩; rw [Int.toNat_natCast, Hq.out]))
        go_wp2
        go_ret3
        exact ⟨Hf.out, (Kept.drew (Kept.refl w)).trans e1⟩

set_option maxHeartbeats 1000000 in
set_option maxRecDepth 100000 in
theorem refget_three (s : ByteArray) (k T : Nat) (w : World) (hs : s.size ≤ 100000) (hk : k < s.size) (hfit : k + 1 + 2 ≤ s.size) (a1 : (s[k]).toNat = 249) (hT : Hid (T = 2288 + Vn.num ((after s k).take 2)))
    (hTb : T ≤ 18446744073709551615) (hV : Hid (GetIs s k (2 + 1) T)) :
    Calls Tryd.prog 62 #[.string s, .int .i64 (k : Int)] w fun e w' => e = .returned (tup (vget s.data.toList k)) ∧ Kept w w' := by
  have hc := (s[k]).toNat_lt
  have d1 : decide ((k : Int) < 0) = false := by simp only [decide_eq_false_iff_not]; omega
  have d2 : decide (s.size < k) = false := by simp only [decide_eq_false_iff_not]; omega
  have d3 : ((k : Int) == (s.size : Int)) = false := by simp only [beq_eq_false_iff_ne]; omega
  go_enter Tryd.func62, Tryd.ntmps62
  go_wp2
  go_loop [9, 10] (fun n i => ∃ j : Nat, j ≤ 2 ∧ i = .int .i64 j ∧ n = .int .u64 (Vn.num ((after s k).take j) : Nat)) (fun _ i => 2 - (intOf i).toNat)
  case atStart => exact ⟨0, Nat.zero_le _, rfl, by simp [Vn.num]⟩
  case round =>
    obtain ⟨j, hj, rfl, rfl⟩ := hrel
    have hb := num_take_lt (after s k) j (by omega)
    by_cases hlt : j < 2
    · have hb2 : Vn.num ((after s k).take j) < 72057594037927936 := by
        have : 256 ^ j ≤ 256 ^ 7 := Nat.pow_le_pow_right (by decide) (by omega)
        omega
      have hi : k + 1 + j < s.size := by omega
      have Hn : Hid (Vn.num ((after s k).take (j + 1)) = 256 * Vn.num ((after s k).take j) + (s[k + 1 + j]).toNat) := by
        show _ = _
        rw [after_snoc s k j hi, Vn.num_snoc]; omega
      have hbyte := (s[k + 1 + j]).toNat_lt
      go_wp2
      go_round
      case rel => exact ⟨j + 1, by omega, by go_num, by rw [Hn.out]; go_num⟩
      case measure => simp [intOf]; omega
    · obtain rfl : j = 2 := by omega
      obtain ⟨nn, hnn⟩ : ∃ nn, nn = Vn.num ((after s k).take 2) := ⟨_, rfl⟩
      have HN := Lib.hid hnn
      rw [← hnn] at hb ⊢
      clear hnn
      go_wp2_with fail
      rw [show 2288 + (nn : Int) = (T : Int) by have h1 := hT.out; have h2 := HN.out; omega]
      have s1 : IntKind.i64.wrap ((k : Int) + 1) = (k : Int) + 1 := by rw [IntKind.wrap_i64]; omega
      have s2 : IntKind.i64.wrap ((k : Int) + 1 + 2) = (k : Int) + 1 + 2 := by rw [IntKind.wrap_i64]; omega
      have s3 : ((k : Int) + 1 + 2).toNat = k + (2 + 1) := by omega
      have s4 : 0 ≤ (k : Int) + 1 + 2 := by omega
      have s5 : (k : Int) + 1 + 2 ≤ (s.size : Int) := by omega
      have s6 : (k : Int) ≤ (k : Int) + 1 + 2 := by omega
      obtain ⟨q, hq, hcase⟩ := hV.out
      have Hq := Lib.hid hq
      clear hq
      rcases hcase with ⟨hE, hv⟩ | ⟨hE, hv⟩
      · have hf := tup_mk _ _ _ _ hv
        rw [show ((k + (2 + 1) : Nat) : Int) = (k : Int) + 1 + 2 by omega] at hf
        have Hf := Lib.hid hf
        clear hv hf
        have hE2 : (q.toList != (s.extract k (k + (2 + 1))).toList) = false := by simp [bne, hE]
        go_region_held3 (fun _ => True) (trivial)
          (first | (go_at_call 68; refine (refput_any _ _ (by omega) (by omega)).mono ?_; rintro e w1 ⟨rfl, e1⟩; rw [Int.toNat_natCast, Hq.out]))
        go_wp2
        go_ret3
        exact ⟨Hf.out, (Kept.drew (Kept.refl w)).trans e1⟩
      · have Hf := Lib.hid (tup_mk _ _ _ _ hv)
        clear hv
        have hE2 : (q.toList != (s.extract k (k + (2 + 1))).toList) = true := by simp [bne, hE]
        go_region_held3 (fun _ => True) (trivial)
          (first | (go_at_call 68; refine (refput_any _ _ (by omega) (by omega)).mono ?_; rintro e w1 ⟨rfl, e1⟩; rw [Int.toNat_natCast, Hq.out]))
        go_wp2
        go_ret3
        exact ⟨Hf.out, (Kept.drew (Kept.refl w)).trans e1⟩

set_option maxHeartbeats 1000000 in
set_option maxRecDepth 100000 in
theorem refget_more (s : ByteArray) (k kk T : Nat) (w : World) (hs : s.size ≤ 100000) (hk : k < s.size) (hfit : k + 1 + kk ≤ s.size) (a1 : 249 < (s[k]).toNat) (a2 : kk + 247 = (s[k]).toNat) (hT : Hid (T = Vn.num ((after s k).take kk)))
    (hTb : T ≤ 18446744073709551615) (hV : Hid (GetIs s k (kk + 1) T)) :
    Calls Tryd.prog 62 #[.string s, .int .i64 (k : Int)] w fun e w' => e = .returned (tup (vget s.data.toList k)) ∧ Kept w w' := by
  have hc := (s[k]).toNat_lt
  have d1 : decide ((k : Int) < 0) = false := by simp only [decide_eq_false_iff_not]; omega
  have d2 : decide (s.size < k) = false := by simp only [decide_eq_false_iff_not]; omega
  have d3 : ((k : Int) == (s.size : Int)) = false := by simp only [beq_eq_false_iff_ne]; omega
  have d4 : decide (240 < ((s[k]).toNat : Int)) = true := by simp only [decide_eq_true_eq]; omega
  have d5 : (((s[k]).toNat : Int) == 249) = false := by simp only [beq_eq_false_iff_ne]; omega
  have d6 : decide (249 < ((s[k]).toNat : Int)) = true := by simp only [decide_eq_true_eq]; omega
  have d7 : decide ((s.size : Int) - (k : Int) - 1 < ((s[k]).toNat : Int) - 247) = false := by simp only [decide_eq_false_iff_not]; omega
  go_enter Tryd.func62, Tryd.ntmps62
  go_wp2
  rw [show ((s[k]).toNat : Int) - 247 = (kk : Int) by omega]
  go_loop [9, 10] (fun n i => ∃ j : Nat, j ≤ kk ∧ i = .int .i64 j ∧ n = .int .u64 (Vn.num ((after s k).take j) : Nat)) (fun _ i => kk - (intOf i).toNat)
  case atStart => exact ⟨0, Nat.zero_le _, rfl, by simp [Vn.num]⟩
  case round =>
    obtain ⟨j, hj, rfl, rfl⟩ := hrel
    have hb := num_take_lt (after s k) j (by omega)
    by_cases hlt : j < kk
    · have hb2 : Vn.num ((after s k).take j) < 72057594037927936 := by
        have : 256 ^ j ≤ 256 ^ 7 := Nat.pow_le_pow_right (by decide) (by omega)
        omega
      have hi : k + 1 + j < s.size := by omega
      have Hn : Hid (Vn.num ((after s k).take (j + 1)) = 256 * Vn.num ((after s k).take j) + (s[k + 1 + j]).toNat) := by
        show _ = _
        rw [after_snoc s k j hi, Vn.num_snoc]; omega
      have hbyte := (s[k + 1 + j]).toNat_lt
      go_wp2
      go_round
      case rel => exact ⟨j + 1, by omega, by go_num, by rw [Hn.out]; go_num⟩
      case measure => simp [intOf]; omega
    · obtain rfl : j = kk := by omega
      obtain ⟨nn, hnn⟩ : ∃ nn, nn = Vn.num ((after s k).take j) := ⟨_, rfl⟩
      have HN := Lib.hid hnn
      rw [← hnn] at hb ⊢
      clear hnn
      go_wp2_with fail
      obtain rfl : nn = T := by rw [HN.out, hT.out]
      have s1 : IntKind.i64.wrap ((k : Int) + 1) = (k : Int) + 1 := by rw [IntKind.wrap_i64]; omega
      have s2 : IntKind.i64.wrap ((k : Int) + 1 + j) = (k : Int) + 1 + j := by rw [IntKind.wrap_i64]; omega
      have s3 : ((k : Int) + 1 + j).toNat = k + (j + 1) := by omega
      have s4 : 0 ≤ (k : Int) + 1 + j := by omega
      have s5 : (k : Int) + 1 + j ≤ (s.size : Int) := by omega
      have s6 : (k : Int) ≤ (k : Int) + 1 + j := by omega
      obtain ⟨q, hq, hcase⟩ := hV.out
      have Hq := Lib.hid hq
      clear hq
      rcases hcase with ⟨hE, hv⟩ | ⟨hE, hv⟩
      · have hf := tup_mk _ _ _ _ hv
        rw [show ((k + (j + 1) : Nat) : Int) = (k : Int) + 1 + j by omega] at hf
        have Hf := Lib.hid hf
        clear hv hf
        have hE2 : (q.toList != (s.extract k (k + (j + 1))).toList) = false := by simp [bne, hE]
        go_region_held3 (fun _ => True) (trivial)
          (first | (go_at_call 68; refine (refput_any _ _ (by omega) (by omega)).mono ?_; rintro e w1 ⟨rfl, e1⟩; rw [Int.toNat_natCast, Hq.out]))
        go_wp2
        go_ret3
        exact ⟨Hf.out, (Kept.drew (Kept.refl w)).trans e1⟩
      · have Hf := Lib.hid (tup_mk _ _ _ _ hv)
        clear hv
        have hE2 : (q.toList != (s.extract k (k + (j + 1))).toList) = true := by simp [bne, hE]
        go_region_held3 (fun _ => True) (trivial)
          (first | (go_at_call 68; refine (refput_any _ _ (by omega) (by omega)).mono ?_; rintro e w1 ⟨rfl, e1⟩; rw [Int.toNat_natCast, Hq.out]))
        go_wp2
        go_ret3
        exact ⟨Hf.out, (Kept.drew (Kept.refl w)).trans e1⟩
end Go.Proofs.YtenhncohhikllaaDoor

namespace Go.Proofs.YtenhncohhikllaaDoor
open Go.ChangeShapes Go.WideShapes Go.ChangeAt Go.RowKit

theorem getIs (s : ByteArray) (k m : Nat) (hk : k < s.size) (hm : m = Vn.need s[k].toNat) (hfit : k + m ≤ s.size) : GetIs s k m (Vn.tell ((s.data.toList.drop k).take m)) := by
  have hF := get_facts s k m hk hm hfit
  obtain ⟨hb, ⟨x0, x1, x2, x3⟩, hv⟩ := hF.out
  obtain ⟨q, hq, sq, lq⟩ := name_put (Vn.tell ((s.data.toList.drop k).take m))
  refine ⟨q, hq, ?_⟩
  rw [lq, toList_eq, x3]
  have hd := at_len s k hk
  by_cases h : Vn.vsz (Vn.tell ((s.data.toList.drop k).take m)) = m
  · rw [if_pos h] at hv
    refine .inl ⟨?_, hv⟩
    rw [beq_iff_eq]
    have hp := Vn.need_pos _ (s[k]).toNat_lt
    obtain ⟨j, hj⟩ : ∃ j, m = j + 1 := ⟨m - 1, by omega⟩
    rw [hd, hj, List.take_succ_cons] at h ⊢
    refine Vn.vput_tell _ _ ?_ (by rw [h, ← hj, hm])
    rw [← hm, hj, List.length_cons, List.length_take, List.length_drop, size_len]
    omega
  · rw [if_neg h] at hv
    refine .inr ⟨?_, hv⟩
    rw [beq_eq_false_iff_ne]
    intro e
    have hl := congrArg List.length e
    rw [Vn.vput_length, List.length_take, List.length_drop, size_len] at hl
    omega

/-- which class a first byte is of -/
theorem need_cases (c kk : Nat) (hc : c < 256) (h : kk + 1 = Vn.need c) : (c ≤ 240 ∧ kk = 0) ∨ (240 < c ∧ c ≤ 248 ∧ kk = 1) ∨ (c = 249 ∧ kk = 2) ∨ (249 < c ∧ kk + 247 = c) := by
  unfold Vn.need at h
  (repeat' split at h) <;> omega

theorem refget_fits (s : ByteArray) (k kk : Nat) (w : World) (hs : s.size ≤ 100000) (hk : k < s.size) (hkk : kk + 1 = Vn.need s[k].toNat) (hfit : k + 1 + kk ≤ s.size) :
    Calls Tryd.prog 62 #[.string s, .int .i64 (k : Int)] w fun e w' => e = .returned (tup (vget s.data.toList k)) ∧ Kept w w' := by
  have hG := getIs s k (kk + 1) hk hkk (by omega)
  have hb := (get_facts s k (kk + 1) hk hkk (by omega)).out.1
  have ht : (s.data.toList.drop k).take (kk + 1) = s[k] :: (after s k).take kk := by rw [at_len s k hk, List.take_succ_cons]; rfl
  rw [ht] at hG hb
  rcases need_cases _ kk (s[k]).toNat_lt hkk with ⟨a1, rfl⟩ | ⟨a1, a2, rfl⟩ | ⟨a1, rfl⟩ | ⟨a1, a2⟩
  · have hT : Vn.tell (s[k] :: (after s k).take 0) = (s[k]).toNat := by rw [Vn.tell, if_pos a1]
    rw [hT] at hG hb
    exact refget_one s k _ w hs hk hfit a1 rfl hb hG
  · have hT : Vn.tell (s[k] :: (after s k).take 1) = 240 + 256 * ((s[k]).toNat - 241) + Vn.num ((after s k).take 1) := by rw [Vn.tell, if_neg (by omega), if_pos a2]
    exact refget_two s k _ w hs hk hfit a1 a2 hT hb hG
  · have hT : Vn.tell (s[k] :: (after s k).take 2) = 2288 + Vn.num ((after s k).take 2) := by rw [Vn.tell, if_neg (by omega), if_neg (by omega), if_pos a1]
    exact refget_three s k _ w hs hk hfit a1 hT hb hG
  · have hT : Vn.tell (s[k] :: (after s k).take kk) = Vn.num ((after s k).take kk) := by rw [Vn.tell, if_neg (by omega), if_neg (by omega), if_neg (by omega)]
    exact refget_more s k kk _ w hs hk hfit a1 a2 hT hb hG

set_option maxHeartbeats 1000000 in
set_option maxRecDepth 100000 in
theorem refget_any (s : ByteArray) (a : Int) (w : World) (hs : s.size ≤ 100000) (_h1 : -9223372036854775808 ≤ a) (_h2 : a ≤ 9223372036854775807) :
    Calls Tryd.prog 62 #[.string s, .int .i64 a] w fun e w' => e = .returned (tup (vget s.data.toList a)) ∧ Kept w w' := by
  have hl := size_len s
  by_cases hn : a < 0
  · have Hf := Lib.hid (tup_mk 0 0 1 _ (vget_arg s.data.toList a (.inl hn)))
    clear hl
    go_enter Tryd.func62, Tryd.ntmps62
    go_wp2
    go_ret3
    exact ⟨Hf.out, Kept.refl _⟩
  obtain ⟨k, rfl⟩ := Int.eq_ofNat_of_zero_le (show 0 ≤ a by omega)
  by_cases hb : s.size < k
  · have Hf := Lib.hid (tup_mk 0 0 1 _ (vget_arg s.data.toList k (.inr (by omega))))
    clear hl
    go_enter Tryd.func62, Tryd.ntmps62
    go_wp2
    go_ret3
    exact ⟨Hf.out, Kept.refl _⟩
  by_cases he : k = s.size
  · subst he
    have Hf := Lib.hid (tup_mk 0 0 3 _ (vget_end s.data.toList s.size (by omega)))
    clear hl
    go_enter Tryd.func62, Tryd.ntmps62
    go_wp2
    go_ret3
    exact ⟨Hf.out, Kept.refl _⟩
  have hk : k < s.size := by omega
  have hc := (s[k]).toNat_lt
  have hp := Vn.need_pos _ hc
  obtain ⟨kk, hkk⟩ : ∃ kk, kk + 1 = Vn.need s[k].toNat := ⟨Vn.need s[k].toNat - 1, by omega⟩
  by_cases hfit : k + 1 + kk ≤ s.size
  · exact refget_fits s k kk w hs hk hkk hfit
  · have hd := at_len s k hk
    have Hf := Lib.hid (tup_mk 0 0 3 _ (vget_short s.data.toList k _ _ (by omega) hd (by rw [← hd, List.length_drop, ← hkk]; omega)))
    have hcls := need_cases _ kk hc hkk
    clear hl hd hkk hp
    rcases hcls with ⟨a1, rfl⟩ | ⟨a1, a2, rfl⟩ | ⟨a1, rfl⟩ | ⟨a1, a2⟩
    · exact absurd hfit (by omega)
    all_goals
      go_enter Tryd.func62, Tryd.ntmps62
      go_wp2
      go_ret3
      exact ⟨Hf.out, Kept.refl _⟩

set_option maxHeartbeats 1000000 in
theorem refcut_any (s : ByteArray) (a : Int) (w : World) (hs : s.size ≤ 100000) (h1 : -9223372036854775808 ≤ a) (h2 : a ≤ 9223372036854775807) :
    Calls Tryd.prog 76 #[.string s, .int .i64 a] w fun e w' => e = .returned (tups (vcut s.data.toList a)) ∧ Kept w w' := by
  have Hl := Lib.hid (size_len s)
  obtain ⟨g1, g2, g3⟩ := vget_le s.data.toList a
  rw [Hl.out] at g2
  have Hv : Hid (vcut s.data.toList a = vcut s.data.toList a) := rfl
  have hv := Hv.out
  conv at hv => rhs; unfold vcut
  clear Hv
  obtain ⟨⟨n, t, e0⟩, hg⟩ : ∃ x, x = vget s.data.toList a := ⟨_, rfl⟩
  rw [← hg] at g1 g2 g3 hv
  simp only at g1 g2 g3 hv
  have Hg := Lib.hid hg
  have Hv := Lib.hid hv
  clear hg hv
  go_enter Tryd.func76, Tryd.ntmps76
  go_wp2_with fail
  refine (refget_any s a _ hs h1 h2).mono ?_
  rintro e w' ⟨rfl, hk⟩
  rw [← Hg.out]
  unfold tup
  simp only
  by_cases b1 : e0 = 0
  · subst b1
    by_cases b2 : 65536 < n
    · go_wp2
      go_ret3
      refine ⟨?_, hk⟩
      rw [Hv.out, if_neg (by simp), if_pos b2]
      rfl
    · by_cases b3 : s.size - t < n
      · go_wp2
        go_ret3
        refine ⟨?_, hk⟩
        rw [Hv.out, Hl.out, if_neg (by simp), if_neg b2, if_pos b3]
        rfl
      · have b4 : t + n ≤ s.size := by omega
        go_wp2
        go_ret3
        refine ⟨?_, hk⟩
        rw [Hv.out, Hl.out, if_neg (by simp), if_neg b2, if_neg b3]
        have he : s.extract t (t + n) = ⟨((s.data.toList.drop t).take n).toArray⟩ := by
          apply ByteArray.ext
          apply Array.toList_inj.1
          simp [ByteArray.data_extract, List.extract_eq_take_drop]
        rw [he]
        rfl
  · go_wp2
    go_ret3
    refine ⟨?_, hk⟩
    rw [Hv.out, if_pos b1]
    rfl
end Go.Proofs.YtenhncohhikllaaDoor
