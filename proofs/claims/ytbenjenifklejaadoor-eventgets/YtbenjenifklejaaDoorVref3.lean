/-
  The walks of the document's own Get and Cut.
-/
import Derived.Test.YtbenjenifklejaaDoorVref2
import Derived.Test.YtbenjenifklejaaDoorVback
import Derived.Test.YtbenjenifklejaaDoorVless
namespace Go.Proofs.YtbenjenifklejaaDoor
open Go.ChangeShapes Go.WideShapes Go.ChangeAt Go.RowKit

/-- the bytes behind a place -/
def after (s : ByteArray) (k : Nat) : List UInt8 := s.data.toList.drop (k + 1)
theorem after_snoc (s : ByteArray) (k i : Nat) (h : k + 1 + i < s.size) : (after s k).take (i + 1) = (after s k).take i ++ [s[k + 1 + i]] := by
  have h' : k + 1 + i < s.data.size := h
  rw [List.take_add_one, after, List.getElem?_drop, Array.getElem?_toList, Array.getElem?_eq_getElem h']
  rfl
theorem num_take_lt (l : List UInt8) (i : Nat) (h : i ≤ 8) : Vn.num (l.take i) < 256 ^ i ∧ Vn.num (l.take i) < 18446744073709551616 := by
  have h1 := Vn.num_lt (l.take i)
  have h2 : 256 ^ (l.take i).length ≤ 256 ^ i := Nat.pow_le_pow_right (by decide) (List.length_take_le _ _)
  have h3 : 256 ^ i ≤ 256 ^ 8 := Nat.pow_le_pow_right (by decide) h
  omega


/-- what Get answers at a place, by the number that is told there -/
def GetIs (s : ByteArray) (k m T : Nat) : Prop :=
  ∃ q : ByteArray, str (Vn.vput T) = .string q ∧ (((q.toList == (s.extract k (k + m)).toList) = true ∧ vget s.data.toList k = (T, k + m, 0)) ∨ ((q.toList == (s.extract k (k + m)).toList) = false ∧ vget s.data.toList k = (0, 0, 4)))

set_option maxHeartbeats 1000000 in
set_option maxRecDepth 100000 in
theorem refget_one (s : ByteArray) (k T : Nat) (w : World) (hs : s.size ≤ 1000) (hk : k < s.size) (hfit : k + 1 + 0 ≤ s.size) (a1 : (s[k]).toNat ≤ 240) (hT : T = (s[k]).toNat)
    (hTb : T ≤ 18446744073709551615) (hV : Hid (GetIs s k (0 + 1) T)) :
    Calls Tryd.prog 49 #[.string s, .int .i64 (k : Int)] w fun e w' => e = .returned (tup (vget s.data.toList k)) ∧ Kept w w' := by
  have hc := (s[k]).toNat_lt
  have d1 : decide ((k : Int) < 0) = false := by simp only [decide_eq_false_iff_not]; omega
  have d2 : decide (s.size < k) = false := by simp only [decide_eq_false_iff_not]; omega
  have d3 : ((k : Int) == (s.size : Int)) = false := by simp only [beq_eq_false_iff_ne]; omega
  have d4 : decide (240 < ((s[k]).toNat : Int)) = false := by simp only [decide_eq_false_iff_not]; omega
  have d5 : (((s[k]).toNat : Int) == 249) = false := by simp only [beq_eq_false_iff_ne]; omega
  have d6 : decide (249 < ((s[k]).toNat : Int)) = false := by simp only [decide_eq_false_iff_not]; omega
  have d7 : decide ((s.size : Int) - (k : Int) - 1 < 0) = false := by simp only [decide_eq_false_iff_not]; omega
  go_enter Tryd.func49, Tryd.ntmps49
  go_wp2
  go_loop [9, 10] (fun n i => ∃ j : Nat, j ≤ 0 ∧ i = .int .i64 j ∧ n = .int .u64 (Vn.num ((after s k).take j) : Nat)) (fun _ i => 0 - (intOf i).toNat)
  case atStart => exact ⟨0, Nat.zero_le _, rfl, by simp [Vn.num]⟩
  case round =>
    obtain ⟨j, hj, rfl, rfl⟩ := hrel
    have hb := num_take_lt (after s k) j (by omega)
    by_cases hlt : j < 0
    · exact absurd hlt (by omega)
    · obtain rfl : j = 0 := by omega
      obtain ⟨nn, hnn⟩ : ∃ nn, nn = Vn.num ((after s k).take 0) := ⟨_, rfl⟩
      have HN := Lib.hid hnn
      rw [← hnn] at hb ⊢
      clear hnn
      go_wp2_with fail
      subst hT
      have s1 : IntKind.i64.wrap ((k : Int) + 1) = (k : Int) + 1 := by rw [IntKind.wrap_i64]; omega
      have s3 : ((k : Int) + 1).toNat = k + 1 := by omega
      have s4 : 0 ≤ (k : Int) + 1 := by omega
      have s5 : (k : Int) + 1 ≤ (s.size : Int) := by omega
      have s6 : (k : Int) ≤ (k : Int) + 1 := by omega
      obtain ⟨q, hq, hcase⟩ := hV.out
      have Hq := Lib.hid hq
      clear hq
      rcases hcase with ⟨hE, hv⟩ | ⟨hE, hv⟩
      · have hf := tup_mk _ _ _ _ hv
        rw [show ((k + (0 + 1) : Nat) : Int) = (k : Int) + 1 by omega] at hf
        have Hf := Lib.hid hf
        clear hv hf
        have hE2 : (q.toList != (s.extract k (k + 1)).toList) = false := by simp [bne, hE]
        go_region_held3 (fun _ => True) (trivial)
          (first | (go_at_call 38; refine (refput_any _ _ (by omega) (by omega)).mono ?_; rintro e w1 ⟨rfl, e1⟩; rw [Int.toNat_natCast, Hq.out]))
        go_wp2
        go_ret3
        exact ⟨Hf.out, (Kept.drew (Kept.refl w)).trans e1⟩
      · have Hf := Lib.hid (tup_mk _ _ _ _ hv)
        clear hv
        have hE2 : (q.toList != (s.extract k (k + 1)).toList) = true := by simp [bne, hE]
        go_region_held3 (fun _ => True) (trivial)
          (first | (go_at_call 38; refine (refput_any _ _ (by omega) (by omega)).mono ?_; rintro e w1 ⟨rfl, e1⟩; rw [Int.toNat_natCast, Hq.out]))
        go_wp2
        go_ret3
        exact ⟨Hf.out, (Kept.drew (Kept.refl w)).trans e1⟩

set_option maxHeartbeats 1000000 in
set_option maxRecDepth 100000 in
theorem refget_two (s : ByteArray) (k T : Nat) (w : World) (hs : s.size ≤ 1000) (hk : k < s.size) (hfit : k + 1 + 1 ≤ s.size) (a1 : 240 < (s[k]).toNat) (a2 : (s[k]).toNat ≤ 248) (hT : Hid (T = 240 + 256 * ((s[k]).toNat - 241) + Vn.num ((after s k).take 1)))
    (hTb : T ≤ 18446744073709551615) (hV : Hid (GetIs s k (1 + 1) T)) :
    Calls Tryd.prog 49 #[.string s, .int .i64 (k : Int)] w fun e w' => e = .returned (tup (vget s.data.toList k)) ∧ Kept w w' := by
  have hc := (s[k]).toNat_lt
  have d1 : decide ((k : Int) < 0) = false := by simp only [decide_eq_false_iff_not]; omega
  have d2 : decide (s.size < k) = false := by simp only [decide_eq_false_iff_not]; omega
  have d3 : ((k : Int) == (s.size : Int)) = false := by simp only [beq_eq_false_iff_ne]; omega
  have d4 : decide (240 < ((s[k]).toNat : Int)) = true := by simp only [decide_eq_true_eq]; omega
  have d5 : (((s[k]).toNat : Int) == 249) = false := by simp only [beq_eq_false_iff_ne]; omega
  have d6 : decide (249 < ((s[k]).toNat : Int)) = false := by simp only [decide_eq_false_iff_not]; omega
  have d7 : decide ((s.size : Int) - (k : Int) - 1 < 1) = false := by simp only [decide_eq_false_iff_not]; omega
  go_enter Tryd.func49, Tryd.ntmps49
  go_wp2
  go_loop [9, 10] (fun n i => ∃ j : Nat, j ≤ 1 ∧ i = .int .i64 j ∧ n = .int .u64 (Vn.num ((after s k).take j) : Nat)) (fun _ i => 1 - (intOf i).toNat)
  case atStart => exact ⟨0, Nat.zero_le _, rfl, by simp [Vn.num]⟩
  case round =>
    obtain ⟨j, hj, rfl, rfl⟩ := hrel
    have hb := num_take_lt (after s k) j (by omega)
    by_cases hlt : j < 1
    · have hb2 : Vn.num ((after s k).take j) < 72057594037927936 := by
        have : 256 ^ j ≤ 256 ^ 7 := Nat.pow_le_pow_right (by decide) (by omega)
        omega
      have hi : k + 1 + j < s.size := by omega
      have Hn : Hid (Vn.num ((after s k).take (j + 1)) = 256 * Vn.num ((after s k).take j) + (s[k + 1 + j]).toNat) := by
        show _ = _
        rw [after_snoc s k j hi, Vn.num_snoc]; omega
      have hbyte := (s[k + 1 + j]).toNat_lt
      go_wp2
      go_round
      case rel => exact ⟨j + 1, by omega, by go_num, by rw [Hn.out]; go_num⟩
      case measure => simp [intOf]; omega
    · obtain rfl : j = 1 := by omega
      obtain ⟨nn, hnn⟩ : ∃ nn, nn = Vn.num ((after s k).take 1) := ⟨_, rfl⟩
      have HN := Lib.hid hnn
      rw [← hnn] at hb ⊢
      clear hnn
      go_wp2_with fail
      rw [show 240 + 256 * (((s[k]).toNat : Int) - 241) + (nn : Int) = (T : Int) by have h1 := hT.out; have h2 := HN.out; omega]
      have s1 : IntKind.i64.wrap ((k : Int) + 1) = (k : Int) + 1 := by rw [IntKind.wrap_i64]; omega
      have s2 : IntKind.i64.wrap ((k : Int) + 1 + 1) = (k : Int) + 1 + 1 := by rw [IntKind.wrap_i64]; omega
      have s3 : ((k : Int) + 1 + 1).toNat = k + (1 + 1) := by omega
      have s4 : 0 ≤ (k : Int) + 1 + 1 := by omega
      have s5 : (k : Int) + 1 + 1 ≤ (s.size : Int) := by omega
      have s6 : (k : Int) ≤ (k : Int) + 1 + 1 := by omega
      obtain ⟨q, hq, hcase⟩ := hV.out
      have Hq := Lib.hid hq
      clear hq
      rcases hcase with ⟨hE, hv⟩ | ⟨hE, hv⟩
      · have hf := tup_mk _ _ _ _ hv
        rw [show ((k + (1 + 1) : Nat) : Int) = (k : Int) + 1 + 1 by omega] at hf
        have Hf := Lib.hid hf
        clear hv hf
        have hE2 : (q.toList != (s.extract k (k + (1 + 1))).toList) = false := by simp [bne, hE]
        go_region_held3 (fun _ => True) (trivial)
          (first | (go_at_call 38; refine (refput_any _ _ (by omega) (by omega)).mono ?_; rintro e w1 ⟨rfl, e1⟩; rw [Int.toNat_natCast, Hq.out]))
        go_wp2
        go_ret3
        exact ⟨Hf.out, (Kept.drew (Kept.refl w)).trans e1⟩
      · have Hf := Lib.hid (tup_mk _ _ _ _ hv)
        clear hv
        have hE2 : (q.toList != (s.extract k (k + (1 + 1))).toList) = true := by simp [bne, hE]
        go_region_held3 (fun _ => True) (trivial)
          (first | (go_at_call 38; refine (refput_any _ _ (by omega) (by omega)).mono ?_; rintro e w1 ⟨rfl, e1⟩; rw [Int.toNat_natCast, Hq.out]))
        go_wp2
        go_ret3
        exact ⟨Hf.out, (Kept.drew (Kept.refl w)).trans e1⟩

set_option maxHeartbeats 1000000 in
set_option maxRecDepth 100000 in
theorem refget_three (s : ByteArray) (k T : Nat) (w : World) (hs : s.size ≤ 1000) (hk : k < s.size) (hfit : k + 1 + 2 ≤ s.size) (a1 : (s[k]).toNat = 249) (hT : Hid (T = 2288 + Vn.num ((after s k).take 2)))
    (hTb : T ≤ 18446744073709551615) (hV : Hid (GetIs s k (2 + 1) T)) :
    Calls Tryd.prog 49 #[.string s, .int .i64 (k : Int)] w fun e w' => e = .returned (tup (vget s.data.toList k)) ∧ Kept w w' := by
  have hc := (s[k]).toNat_lt
  have d1 : decide ((k : Int) < 0) = false := by simp only [decide_eq_false_iff_not]; omega
  have d2 : decide (s.size < k) = false := by simp only [decide_eq_false_iff_not]; omega
  have d3 : ((k : Int) == (s.size : Int)) = false := by simp only [beq_eq_false_iff_ne]; omega
  go_enter Tryd.func49, Tryd.ntmps49
  go_wp2
  go_loop [9, 10] (fun n i => ∃ j : Nat, j ≤ 2 ∧ i = .int .i64 j ∧ n = .int .u64 (Vn.num ((after s k).take j) : Nat)) (fun _ i => 2 - (intOf i).toNat)
  case atStart => exact ⟨0, Nat.zero_le _, rfl, by simp [Vn.num]⟩
  case round =>
    obtain ⟨j, hj, rfl, rfl⟩ := hrel
    have hb := num_take_lt (after s k) j (by omega)
    by_cases hlt : j < 2
    · have hb2 : Vn.num ((after s k).take j) < 72057594037927936 := by
        have : 256 ^ j ≤ 256 ^ 7 := Nat.pow_le_pow_right (by decide) (by omega)
        omega
      have hi : k + 1 + j < s.size := by omega
      have Hn : Hid (Vn.num ((after s k).take (j + 1)) = 256 * Vn.num ((after s k).take j) + (s[k + 1 + j]).toNat) := by
        show _ = _
        rw [after_snoc s k j hi, Vn.num_snoc]; omega
      have hbyte := (s[k + 1 + j]).toNat_lt
      go_wp2
      go_round
      case rel => exact ⟨j + 1, by omega, by go_num, by rw [Hn.out]; go_num⟩
      case measure => simp [intOf]; omega
    · obtain rfl : j = 2 := by omega
      obtain ⟨nn, hnn⟩ : ∃ nn, nn = Vn.num ((after s k).take 2) := ⟨_, rfl⟩
      have HN := Lib.hid hnn
      rw [← hnn] at hb ⊢
      clear hnn
      go_wp2_with fail
      rw [show 2288 + (nn : Int) = (T : Int) by have h1 := hT.out; have h2 := HN.out; omega]
      have s1 : IntKind.i64.wrap ((k : Int) + 1) = (k : Int) + 1 := by rw [IntKind.wrap_i64]; omega
      have s2 : IntKind.i64.wrap ((k : Int) + 1 + 2) = (k : Int) + 1 + 2 := by rw [IntKind.wrap_i64]; omega
      have s3 : ((k : Int) + 1 + 2).toNat = k + (2 + 1) := by omega
      have s4 : 0 ≤ (k : Int) + 1 + 2 := by omega
      have s5 : (k : Int) + 1 + 2 ≤ (s.size : Int) := by omega
      have s6 : (k : Int) ≤ (k : Int) + 1 + 2 := by omega
      obtain ⟨q, hq, hcase⟩ := hV.out
      have Hq := Lib.hid hq
      clear hq
      rcases hcase with ⟨hE, hv⟩ | ⟨hE, hv⟩
      · have hf := tup_mk _ _ _ _ hv
        rw [show ((k + (2 + 1) : Nat) : Int) = (k : Int) + 1 + 2 by omega] at hf
        have Hf := Lib.hid hf
        clear hv hf
        have hE2 : (q.toList != (s.extract k (k + (2 + 1))).toList) = false := by simp [bne, hE]
        go_region_held3 (fun _ => True) (trivial)
          (first | (go_at_call 38; refine (refput_any _ _ (by omega) (by omega)).mono ?_; rintro e w1 ⟨rfl, e1⟩; rw [Int.toNat_natCast, Hq.out]))
        go_wp2
        go_ret3
        exact ⟨Hf.out, (Kept.drew (Kept.refl w)).trans e1⟩
      · have Hf := Lib.hid (tup_mk _ _ _ _ hv)
        clear hv
        have hE2 : (q.toList != (s.extract k (k + (2 + 1))).toList) = true := by simp [bne, hE]
        go_region_held3 (fun _ => True) (trivial)
          (first | (go_at_call 38; refine (refput_any _ _ (by omega) (by omega)).mono ?_; rintro e w1 ⟨rfl, e1⟩; rw [Int.toNat_natCast, Hq.out]))
        go_wp2
        go_ret3
        exact ⟨Hf.out, (Kept.drew (Kept.refl w)).trans e1⟩

set_option maxHeartbeats 1000000 in
set_option maxRecDepth 100000 in
theorem refget_more (s : ByteArray) (k kk T : Nat) (w : World) (hs : s.size ≤ 1000) (hk : k < s.size) (hfit : k + 1 + kk ≤ s.size) (a1 : 249 < (s[k]).toNat) (a2 : kk + 247 = (s[k]).toNat) (hT : Hid (T = Vn.num ((after s k).take kk)))
    (hTb : T ≤ 18446744073709551615) (hV : Hid (GetIs s k (kk + 1) T)) :
    Calls Tryd.prog 49 #[.string s, .int .i64 (k : Int)] w fun e w' => e = .returned (tup (vget s.data.toList k)) ∧ Kept w w' := by
  have hc := (s[k]).toNat_lt
  have d1 : decide ((k : Int) < 0) = false := by simp only [decide_eq_false_iff_not]; omega
  have d2 : decide (s.size < k) = false := by simp only [decide_eq_false_iff_not]; omega
  have d3 : ((k : Int) == (s.size : Int)) = false := by simp only [beq_eq_false_iff_ne]; omega
  have d4 : decide (240 < ((s[k]).toNat : Int)) = true := by simp only [decide_eq_true_eq]; omega
  have d5 : (((s[k]).toNat : Int) == 249) = false := by simp only [beq_eq_false_iff_ne]; omega
  have d6 : decide (249 < ((s[k]).toNat : Int)) = true := by simp only [decide_eq_true_eq]; omega
  have d7 : decide ((s.size : Int) - (k : Int) - 1 < ((s[k]).toNat : Int) - 247) = false := by simp only [decide_eq_false_iff_not]; omega
  go_enter Tryd.func49, Tryd.ntmps49
  go_wp2
  rw [show ((s[k]).toNat : Int) - 247 = (kk : Int) by omega]
  go_loop [9, 10] (fun n i => ∃ j : Nat, j ≤ kk ∧ i = .int .i64 j ∧ n = .int .u64 (Vn.num ((after s k).take j) : Nat)) (fun _ i => kk - (intOf i).toNat)
  case atStart => exact ⟨0, Nat.zero_le _, rfl, by simp [Vn.num]⟩
  case round =>
    obtain ⟨j, hj, rfl, rfl⟩ := hrel
    have hb := num_take_lt (after s k) j (by omega)
    by_cases hlt : j < kk
    · have hb2 : Vn.num ((after s k).take j) < 72057594037927936 := by
        have : 256 ^ j ≤ 256 ^ 7 := Nat.pow_le_pow_right (by decide) (by omega)
        omega
      have hi : k + 1 + j < s.size := by omega
      have Hn : Hid (Vn.num ((after s k).take (j + 1)) = 256 * Vn.num ((after s k).take j) + (s[k + 1 + j]).toNat) := by
        show _ = _
        rw [after_snoc s k j hi, Vn.num_snoc]; omega
      have hbyte := (s[k + 1 + j]).toNat_lt
      go_wp2
      go_round
      case rel => exact ⟨j + 1, by omega, by go_num, by rw [Hn.out]; go_num⟩
      case measure => simp [intOf]; omega
    · obtain rfl : j = kk := by omega
      obtain ⟨nn, hnn⟩ : ∃ nn, nn = Vn.num ((after s k).take j) := ⟨_, rfl⟩
      have HN := Lib.hid hnn
      rw [← hnn] at hb ⊢
      clear hnn
      go_wp2_with fail
      obtain rfl : nn = T := by rw [HN.out, hT.out]
      have s1 : IntKind.i64.wrap ((k : Int) + 1) = (k : Int) + 1 := by rw [IntKind.wrap_i64]; omega
      have s2 : IntKind.i64.wrap ((k : Int) + 1 + j) = (k : Int) + 1 + j := by rw [IntKind.wrap_i64]; omega
      have s3 : ((k : Int) + 1 + j).toNat = k + (j + 1) := by omega
      have s4 : 0 ≤ (k : Int) + 1 + j := by omega
      have s5 : (k : Int) + 1 + j ≤ (s.size : Int) := by omega
      have s6 : (k : Int) ≤ (k : Int) + 1 + j := by omega
      obtain ⟨q, hq, hcase⟩ := hV.out
      have Hq := Lib.hid hq
      clear hq
      rcases hcase with ⟨hE, hv⟩ | ⟨hE, hv⟩
      · have hf := tup_mk _ _ _ _ hv
        rw [show ((k + (j + 1) : Nat) : Int) = (k : Int) + 1 + j by omega] at hf
        have Hf := Lib.hid hf
        clear hv hf
        have hE2 : (q.toList != (s.extract k (k + (j + 1))).toList) = false := by simp [bne, hE]
        go_region_held3 (fun _ => True) (trivial)
          (first | (go_at_call 38; refine (refput_any _ _ (by omega) (by omega)).mono ?_; rintro e w1 ⟨rfl, e1⟩; rw [Int.toNat_natCast, Hq.out]))
        go_wp2
        go_ret3
        exact ⟨Hf.out, (Kept.drew (Kept.refl w)).trans e1⟩
      · have Hf := Lib.hid (tup_mk _ _ _ _ hv)
        clear hv
        have hE2 : (q.toList != (s.extract k (k + (j + 1))).toList) = true := by simp [bne, hE]
        go_region_held3 (fun _ => True) (trivial)
          (first | (go_at_call 38; refine (refput_any _ _ (by omega) (by omega)).mono ?_; rintro e w1 ⟨rfl, e1⟩; rw [Int.toNat_natCast, Hq.out]))
        go_wp2
        go_ret3
        exact ⟨Hf.out, (Kept.drew (Kept.refl w)).trans e1⟩
end Go.Proofs.YtbenjenifklejaaDoor
