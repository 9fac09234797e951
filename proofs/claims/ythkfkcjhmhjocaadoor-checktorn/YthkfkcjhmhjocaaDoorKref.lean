/-
  The walks of the document's own sums and seals.
-/
import Derived.Test.YthkfkcjhmhjocaaDoorKrows
import Derived.Test.YthkfkcjhmhjocaaDoorVref4
namespace Go.Proofs.YthkfkcjhmhjocaaDoor
open Go.ChangeShapes Go.WideShapes Go.ChangeAt Go.RowKit

theorem xor_u32_byte (n c : Nat) (hn : n < 4294967296) (hc : c < 256) : bits .xor .u32 (n : Int) (c : Int) = ((n ^^^ c : Nat) : Int) := u32_xor_nat n c hn (by omega)

set_option maxHeartbeats 400000 in
theorem refstep_any (n c : Nat) (w : World) (hn : n < 4294967296) (hc : c < 256) :
    Calls Tryd.prog 25 #[.int .u32 n, .int .u8 c] w fun e w' => e = .returned (.int .u32 (Ck.st8 (n ^^^ c))) ∧ w = w' := by
  have hx := xor_u32_byte n c hn hc
  have hlt0 : n ^^^ c < 4294967296 := Nat.xor_lt_two_pow (n := 32) (by omega) (by omega)
  obtain ⟨N, hN⟩ : ∃ N, N = n ^^^ c := ⟨_, rfl⟩
  rw [← hN] at hx hlt0 ⊢
  clear hN
  go_enter Tryd.func25, Tryd.ntmps25
  go_wp2
  clear hx
  go_loop [0, 5] (fun s k => ∃ j : Nat, j ≤ 8 ∧ k = .int .i64 j ∧ s = .int .u32 (Ck.steps j N)) (fun _ k => 8 - (intOf k).toNat)
  case atStart => exact ⟨0, by omega, rfl, rfl⟩
  case round =>
    obtain ⟨j, hj, rfl, rfl⟩ := hrel
    have hlt := Ck.steps_lt j N hlt0
    by_cases h8 : j < 8
    · by_cases hodd : Ck.steps j N % 2 = 1
      · have hb : (((Ck.steps j N : Nat) : Int) % 2 == 1) = true := by rw [beq_iff_eq]; omega
        have Hs := Lib.hid (step_odd j N hodd)
        clear hodd
        go_wp2
        go_round
        case rel => exact ⟨j + 1, by omega, by go_num, by rw [xorP _ hlt, Hs.out]⟩
        case measure => simp [intOf]; omega
      · have hb : (((Ck.steps j N : Nat) : Int) % 2 == 1) = false := by rw [beq_eq_false_iff_ne]; omega
        have Hs := Lib.hid (step_even j N hodd)
        clear hodd
        go_wp2
        go_round
        case rel => exact ⟨j + 1, by omega, by go_num, by rw [← Hs.out]; go_num⟩
        case measure => simp [intOf]; omega
    · obtain rfl : j = 8 := by omega
      go_wp2
      go_ret
      exact ⟨rfl, rfl⟩

set_option maxHeartbeats 400000 in
theorem refadd_any (n : Nat) (s : ByteArray) (w : World) (hn : n < 4294967296) (hs : s.size ≤ maxLen) :
    Calls Tryd.prog 14 #[.int .u32 n, .string s] w fun e w' => e = .returned (.int .u32 (Ck.add n s.data.toList)) ∧ w = w' := by
  unfold maxLen at hs
  go_enter Tryd.func14, Tryd.ntmps14
  go_wp2
  go_loop [5, 6] (fun x i => ∃ k : Nat, k ≤ s.size ∧ i = .int .i64 k ∧ x = .int .u32 (Ck.crc (4294967295 - n) (s.data.toList.take k))) (fun _ i => s.size - (intOf i).toNat)
  case atStart => exact ⟨0, by omega, rfl, by simp [Ck.crc]; omega⟩
  case round =>
    obtain ⟨k, hk, rfl, rfl⟩ := hrel
    have hlt := Ck.crc_lt (s.data.toList.take k) (4294967295 - n) (by omega)
    obtain ⟨N, hN⟩ : ∃ N, N = Ck.crc (4294967295 - n) (s.data.toList.take k) := ⟨_, rfl⟩
    rw [← hN] at hlt ⊢
    have HN := Lib.hid hN
    clear hN
    by_cases hk2 : k < s.size
    · go_wp2_with fail
      refine (refstep_any N _ _ hlt (s[k]).toNat_lt).mono ?_
      rintro e w' ⟨rfl, rfl⟩
      go_wp2
      go_round
      case rel => exact ⟨k + 1, by omega, by go_num, by rw [take_snoc s k hk2, Ck.crc_snoc, ← HN.out]⟩
      case measure => simp [intOf]; omega
    · go_wp2
      go_ret
      refine ⟨ret_int ?_, rfl⟩
      rw [Ck.add, List.take_of_length_le (by rw [size_len]; omega)] at *
      rw [← HN.out]
      omega
end Go.Proofs.YthkfkcjhmhjocaaDoor
