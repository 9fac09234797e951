/-
  The walks of the document's own Sum, four, Seal and Open.
-/
import Derived.Test.YtenhncohhikllaaDoorKseal
import Derived.Test.YtenhncohhikllaaDoorVref2
namespace Go.Proofs.YtenhncohhikllaaDoor
open Go.ChangeShapes Go.WideShapes Go.ChangeAt Go.RowKit

theorem xor_u32_byte (n c : Nat) (hn : n < 4294967296) (hc : c < 256) : bits .xor .u32 (n : Int) (c : Int) = ((n ^^^ c : Nat) : Int) := u32_xor_nat n c hn (by omega)

set_option maxHeartbeats 400000 in
theorem refstep_any (n c : Nat) (w : World) (hn : n < 4294967296) (hc : c < 256) :
    Calls Tryd.prog 93 #[.int .u32 n, .int .u8 c] w fun e w' => e = .returned (.int .u32 (Ck.st8 (n ^^^ c))) ∧ w = w' := by
  have hx := xor_u32_byte n c hn hc
  have hlt0 : n ^^^ c < 4294967296 := Nat.xor_lt_two_pow (n := 32) (by omega) (by omega)
  obtain ⟨N, hN⟩ : ∃ N, N = n ^^^ c := ⟨_, rfl⟩
  rw [← hN] at hx hlt0 ⊢
  clear hN
  go_enter Tryd.func93, Tryd.ntmps93
  go_wp2
  clear hx
  go_loop [0, 5] (fun s k => ∃ j : Nat, j ≤ 8 ∧ k = .int .i64 j ∧ s = .int .u32 (Ck.steps j N)) (fun _ k => 8 - (intOf k).toNat)
  case atStart => exact ⟨0, by omega, rfl, rfl⟩
  case round =>
    obtain ⟨j, hj, rfl, rfl⟩ := hrel
    have hlt := Ck.steps_lt j N hlt0
    by_cases h8 : j < 8
    · by_cases hodd : Ck.steps j N % 2 = 1
      · have hb : (((Ck.steps j N : Nat) : Int) % 2 == 1) = true := by rw [beq_iff_eq]; omega
        have Hs := Lib.hid (step_odd j N hodd)
        clear hodd
        go_wp2
        go_round
        case rel => exact ⟨j + 1, by omega, by go_num, by rw [xorP _ hlt, Hs.out]⟩
        case measure => simp [intOf]; omega
      · have hb : (((Ck.steps j N : Nat) : Int) % 2 == 1) = false := by rw [beq_eq_false_iff_ne]; omega
        have Hs := Lib.hid (step_even j N hodd)
        clear hodd
        go_wp2
        go_round
        case rel => exact ⟨j + 1, by omega, by go_num, by rw [← Hs.out]; go_num⟩
        case measure => simp [intOf]; omega
    · obtain rfl : j = 8 := by omega
      go_wp2
      go_ret
      exact ⟨rfl, rfl⟩

set_option maxHeartbeats 400000 in
theorem refadd_any (n : Nat) (s : ByteArray) (w : World) (hn : n < 4294967296) (hs : s.size ≤ maxLen) :
    Calls Tryd.prog 91 #[.int .u32 n, .string s] w fun e w' => e = .returned (.int .u32 (Ck.add n s.data.toList)) ∧ w = w' := by
  unfold maxLen at hs
  go_enter Tryd.func91, Tryd.ntmps91
  go_wp2
  go_loop [5, 6] (fun x i => ∃ k : Nat, k ≤ s.size ∧ i = .int .i64 k ∧ x = .int .u32 (Ck.crc (4294967295 - n) (s.data.toList.take k))) (fun _ i => s.size - (intOf i).toNat)
  case atStart => exact ⟨0, by omega, rfl, by simp [Ck.crc]; omega⟩
  case round =>
    obtain ⟨k, hk, rfl, rfl⟩ := hrel
    have hlt := Ck.crc_lt (s.data.toList.take k) (4294967295 - n) (by omega)
    obtain ⟨N, hN⟩ : ∃ N, N = Ck.crc (4294967295 - n) (s.data.toList.take k) := ⟨_, rfl⟩
    rw [← hN] at hlt ⊢
    have HN := Lib.hid hN
    clear hN
    by_cases hk2 : k < s.size
    · go_wp2_with fail
      refine (refstep_any N _ _ hlt (s[k]).toNat_lt).mono ?_
      rintro e w' ⟨rfl, rfl⟩
      go_wp2
      go_round
      case rel => exact ⟨k + 1, by omega, by go_num, by rw [take_snoc s k hk2, Ck.crc_snoc, ← HN.out]⟩
      case measure => simp [intOf]; omega
    · go_wp2
      go_ret
      refine ⟨ret_int ?_, rfl⟩
      rw [Ck.add, List.take_of_length_le (by rw [size_len]; omega)] at *
      rw [← HN.out]
      omega
end Go.Proofs.YtenhncohhikllaaDoor

namespace Go.Proofs.YtenhncohhikllaaDoor
open Go.ChangeShapes Go.WideShapes Go.ChangeAt Go.RowKit

theorem refsum_any (s : ByteArray) (w : World) (hs : s.size ≤ maxLen) :
    Calls Tryd.prog 78 #[.string s] w fun e w' => e = .returned (.int .u32 (Ck.sum s.data.toList)) ∧ w = w' := by
  go_enter Tryd.func78, Tryd.ntmps78
  go_wp2_with fail
  refine (refadd_any 0 s _ (by decide) hs).mono ?_
  rintro e w1 ⟨rfl, rfl⟩
  go_wp2
  go_ret
  exact ⟨rfl, rfl⟩

theorem conv_four (n : Nat) (hn : n < 4294967296) (w : World) :
    (convert 89 9 (.slice (some ⟨w.heap.size, 0, none⟩) 4 4)).run Tryd.prog (w.alloc (.cells #[.int .u8 ((n : Int) % 256), .int .u8 ((n : Int) / 256 % 256), .int .u8 ((n : Int) / 65536 % 256), .int .u8 ((n : Int) / 16777216)] 5)) =
      .ok (.string ⟨(Ck.four n).toArray⟩) (w.alloc (.cells #[.int .u8 ((n : Int) % 256), .int .u8 ((n : Int) / 256 % 256), .int .u8 ((n : Int) / 65536 % 256), .int .u8 ((n : Int) / 16777216)] 5)) := by
  have e : #[Value.int .u8 ((n : Int) % 256), .int .u8 ((n : Int) / 256 % 256), .int .u8 ((n : Int) / 65536 % 256), .int .u8 ((n : Int) / 16777216)] = byteRow (Ck.four n) := by
    unfold Ck.four byteRow
    simp only [List.map_cons, List.map_nil, UInt8.toNat_ofNat']
    rw [show ((n : Int) % 256) = ((n % 2 ^ 8 : Nat) : Int) from by omega, show ((n : Int) / 256 % 256) = ((n / 256 % 2 ^ 8 : Nat) : Int) from by omega,
      show ((n : Int) / 65536 % 256) = ((n / 65536 % 2 ^ 8 : Nat) : Int) from by omega, show ((n : Int) / 16777216) = ((n / 16777216 % 2 ^ 8 : Nat) : Int) from by omega]
  rw [e]
  exact conv_new w _ (Ck.four n) 4 rfl

set_option maxHeartbeats 400000 in
theorem reffour_any (n : Nat) (w : World) (hn : n < 4294967296) :
    Calls Tryd.prog 77 #[.int .u32 n] w fun e w' => e = .returned (str (Ck.four n)) ∧ Kept w w' := by
  have hcv := conv_four n hn w
  go_enter Tryd.func77, Tryd.ntmps77
  go_wp2
  go_ret
  exact ⟨rfl, Kept.alloc (Kept.refl w) _⟩

set_option maxHeartbeats 400000 in
theorem refseal_any (s : ByteArray) (w : World) (hs : s.size ≤ 140737488355328) :
    Calls Tryd.prog 67 #[.string s] w fun e w' => e = .returned (str (Ck.seal_ s.data.toList)) ∧ Kept w w' := by
  have hz := Vn.vsz_pos s.size
  have hl := Lib.hid (size_len s)
  go_enter Tryd.func67, Tryd.ntmps67
  go_wp2_with fail
  refine (reftext_any s _ hs).mono ?_
  rintro e w1 ⟨rfl, k1⟩
  obtain ⟨p, hp, sp, lp⟩ := name_str (Vn.vput s.size ++ s.data.toList)
  rw [hp]
  have sp' : p.size ≤ s.size + 9 := by rw [sp, List.length_append, Vn.vput_length, hl.out]; omega
  have Lp := Lib.hid lp
  clear hp sp lp
  go_wp2_with fail
  refine (refsum_any s _ (by unfold maxLen; omega)).mono ?_
  rintro e w2 ⟨rfl, rfl⟩
  go_wp2_with fail
  refine (reffour_any (Ck.sum s.data.toList) _ (Ck.add_lt _ _)).mono ?_
  rintro e w3 ⟨rfl, k3⟩
  obtain ⟨q, hq, sq, lq⟩ := name_str (Ck.four (Ck.sum s.data.toList))
  rw [hq]
  have sq' : q.size ≤ 4 := by rw [sq, Ck.four_length]; exact Nat.le_refl _
  have Lq := Lib.hid lq
  clear hq sq lq
  go_wp2
  go_ret
  refine ⟨str_cat p q _ ?_, k1.trans k3⟩
  rw [Lp.out, Lq.out, Ck.seal_, hl.out]

end Go.Proofs.YtenhncohhikllaaDoor
