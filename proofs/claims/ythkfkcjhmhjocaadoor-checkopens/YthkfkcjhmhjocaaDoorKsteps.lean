/-
  The walks of makeSteps and of what adds a byte by its table.
-/
import Derived.Test.YthkfkcjhmhjocaaDoorKmath
import Derived.Test.YthkfkcjhmhjocaaDoorVtell
import Derived.Laws.BitsAllLaws
namespace Go.Proofs.YthkfkcjhmhjocaaDoor
open Go.ChangeShapes Go.WideShapes Go.ChangeAt Go.RowKit

theorem and1 (n : Nat) (h : n < 4294967296) : bits .and .u32 (n : Int) 1 = ((n % 2 : Nat) : Int) := by
  have := u32_and_nat n 1 h (by decide)
  rw [Nat.and_one_is_mod] at this
  exact this
theorem xorP (n : Nat) (h : n < 4294967296) : bits .xor .u32 ((n : Int) / 2) 3988292384 = ((n / 2 ^^^ 3988292384 : Nat) : Int) := by
  have := u32_xor_nat (n / 2) 3988292384 (by omega) (by decide)
  rw [← this]
  rfl
theorem step_odd (j i : Nat) (h : Ck.steps j i % 2 = 1) : Ck.steps j i / 2 ^^^ 3988292384 = Ck.steps (j + 1) i := by rw [Ck.steps, Ck.one, if_pos h]
theorem step_even (j i : Nat) (h : ¬ Ck.steps j i % 2 = 1) : Ck.steps j i / 2 = Ck.steps (j + 1) i := by rw [Ck.steps, Ck.one, if_neg h]

set_option maxHeartbeats 400000 in
set_option maxRecDepth 100000 in
theorem fill_any (i : Nat) (g : Nat) (v0 : Value) (w : World) (hi : i < 256) (hc : w.cell? ⟨g, i, none⟩ = some v0) (hf : w.frozen? ⟨g, i, none⟩ = false) :
    Calls Tryd.prog 32 #[.int .i64 i, .pointer (some ⟨g, 0, none⟩)] w fun e w' => e = .returned (.tuple #[]) ∧ w' = w.setCell ⟨g, i, none⟩ (.int .u32 (Ck.st8 i)) := by
  go_enter Tryd.func32, Tryd.ntmps32
  go_wp2
  go_loop [3, 4, 7] (fun s _ k => ∃ j : Nat, j ≤ 8 ∧ k = .int .i64 j ∧ s = .int .u32 (Ck.steps j i)) (fun _ _ k => 8 - (intOf k).toNat)
  case atStart => exact ⟨0, by omega, rfl, rfl⟩
  case round =>
    obtain ⟨j, hj, rfl, rfl⟩ := hrel
    have hlt := Ck.steps_lt j i (by omega)
    by_cases h8 : j < 8
    · by_cases hodd : Ck.steps j i % 2 = 1
      · have hb : (bits BinOp.and IntKind.u32 (Ck.steps j i : Int) 1 == 1) = true := by rw [and1 _ hlt, hodd]; rfl
        have Hs := Lib.hid (step_odd j i hodd)
        clear hodd
        go_wp2
        go_round
        case rel => exact ⟨j + 1, by omega, by go_num, by rw [xorP _ hlt, Hs.out]⟩
        case measure => simp [intOf]; omega
      · have hb : (bits BinOp.and IntKind.u32 (Ck.steps j i : Int) 1 == 1) = false := by rw [and1 _ hlt, beq_eq_false_iff_ne]; omega
        have Hs := Lib.hid (step_even j i hodd)
        clear hodd
        go_wp2
        go_round
        case rel => exact ⟨j + 1, by omega, by go_num, by rw [← Hs.out]; go_num⟩
        case measure => simp [intOf]; omega
    · obtain rfl : j = 8 := by omega
      go_wp2
      go_end0
      exact ⟨rfl, rfl⟩

/-- the table when k rows are laid -/
def tabRow (k : Nat) : Array Value := ((List.range 256).map fun i => Value.int .u32 (if i < k then (Ck.st8 i : Int) else 0)).toArray
theorem tabRow_at (k i : Nat) (h : i < 256) : (tabRow k)[i]? = some (.int .u32 (if i < k then (Ck.st8 i : Int) else 0)) := by
  simp [tabRow, h]
theorem tabRow_set (k : Nat) (h : k < 256) : (tabRow k).setIfInBounds k (.int .u32 (Ck.st8 k)) = tabRow (k + 1) := by
  apply Array.ext_getElem?
  intro i
  rw [Array.getElem?_setIfInBounds]
  by_cases hi : i < 256
  · by_cases e : k = i
    · subst e
      rw [if_pos rfl, if_pos (by simp [tabRow]; omega), tabRow_at _ _ hi, if_pos (by omega)]
    · rw [if_neg e, tabRow_at _ _ hi, tabRow_at _ _ hi]
      by_cases h2 : i < k
      · rw [if_pos h2, if_pos (by omega)]
      · rw [if_neg h2, if_neg (by omega)]
  · rw [if_neg (by omega)]
    simp [tabRow, hi]
theorem infoTab : (Tryd.prog.info? 48).map (fun i => (i.zero, i.size, i.bytes)) = some (some (.agg (tabRow 0)), 256, 1024) := by kernel_rfl
theorem zeroTab (w : World) : (zeroValue 48).run Tryd.prog w = .ok (.agg (tabRow 0)) w := by
  obtain ⟨i0, hi, hz0, hz1, hz2⟩ := info_parts infoTab
  simp [zeroValue, typeInfo, hi, hz0]
/-- the table lies in a block -/
structure Steps (w : World) (g : Nat) : Prop where
  size : g < w.heap.size
  at_ : ∀ i, i < 256 → w.cell? ⟨g, i, none⟩ = some (.int .u32 (Ck.st8 i))
theorem Steps.kept {a b : World} {g : Nat} (t : Steps a g) (h : Kept a b) : Steps b g :=
  ⟨Nat.lt_of_lt_of_le t.size h.size, fun i hi => (Below.cell h (p := ⟨g, i, none⟩) t.size).trans (t.at_ i hi)⟩

set_option maxHeartbeats 400000 in
set_option maxRecDepth 100000 in
theorem makeSteps_any (w : World) :
    Calls Tryd.prog 23 #[] w fun e w' => e = .returned (.pointer (some ⟨w.heap.size, 0, none⟩)) ∧ Kept w w' ∧ Steps w' w.heap.size := by
  have hmf : ∀ (fn : Fn) (first cap : Array Value) (w : World), (Instr.makeFunc fn first cap).run Tryd.prog w = .ok (.func fn first cap) w := fun _ _ _ _ => rfl
  have hz := zeroTab
  go_enter Tryd.func23, Tryd.ntmps23
  go_wp2
  clear hz hmf
  go_loopw [5] (fun i wr => ∃ k : Nat, k ≤ 256 ∧ i = .int .i64 k ∧ wr = w.alloc (.cells (tabRow k) 48)) (fun i _ => 256 - (intOf i).toNat)
  case atStart => exact ⟨0, by omega, rfl, rfl⟩
  case round =>
    obtain ⟨k, hk, rfl, rfl⟩ := hrel
    by_cases hlt : k < 256
    · have hc : (w.alloc (.cells (tabRow k) 48)).cell? ⟨w.heap.size, k, none⟩ = some (.int .u32 0) := by
        rw [World.cell?_alloc_at _ _ _ _ rfl, tabRow_at _ _ hlt, if_neg (by omega)]
      have Hc := Lib.hid hc
      clear hc
      go_wp2_with fail
      refine (fill_any k w.heap.size (.int .u32 0) _ hlt Hc.out (by unfold World.frozen?; rw [heap_alloc_new]; simp)).mono ?_
      rintro e w' ⟨rfl, rfl⟩
      go_wp2
      go_roundw
      case rel => exact ⟨k + 1, by omega, by go_num, by rw [tabRow_set k hlt]⟩
      case measure => simp [intOf]; omega
    · obtain rfl : k = 256 := by omega
      go_wp2
      go_ret
      refine ⟨rfl, Kept.alloc (Kept.refl w) _, by simp, fun i hi => ?_⟩
      rw [World.cell?_alloc_at _ _ _ _ rfl, tabRow_at _ _ hi, if_pos hi]

theorem not_u32 (n : Nat) (h : n < 4294967296) : bits .xor .u32 4294967295 (n : Int) = ((4294967295 - n : Nat) : Int) := by
  have e := u32_xor_nat 4294967295 n (by decide) h
  have e2 : 4294967295 ^^^ n = 4294967295 - n := by
    have h1 : (BitVec.allOnes 32 ^^^ BitVec.ofNat 32 n).toNat = (~~~ BitVec.ofNat 32 n).toNat := by rw [BitVec.allOnes_xor]
    rw [BitVec.toNat_xor, BitVec.toNat_not, BitVec.toNat_allOnes, BitVec.toNat_ofNat, Nat.mod_eq_of_lt (by omega)] at h1
    simpa using h1
  rw [e2] at e
  exact e

theorem xor8 (a n : Nat) (ha : a < 4294967296) (hn : n < 4294967296) : bits .xor .u32 (a : Int) ((n : Int) / 256) = ((a ^^^ n / 256 : Nat) : Int) := by
  have := u32_xor_nat a (n / 256) ha (by omega)
  rw [← this]
  rfl
theorem take_snoc (s : ByteArray) (k : Nat) (h : k < s.size) : s.data.toList.take (k + 1) = s.data.toList.take k ++ [s[k]] := by
  rw [List.take_succ_eq_append_getElem (by simpa using h)]; rfl

set_option maxHeartbeats 400000 in
set_option maxRecDepth 100000 in
theorem addby_any (g : Nat) (n : Nat) (s : ByteArray) (w : World) (hn : n < 4294967296) (hs : s.size ≤ maxLen) (hT : Steps w g) :
    Calls Tryd.prog 24 #[.pointer (some ⟨g, 0, none⟩), .int .u32 n, .string s] w fun e w' => e = .returned (.int .u32 (Ck.add n s.data.toList)) ∧ Kept w w' := by
  unfold maxLen at hs
  have r1 : IntKind.u32.signed = false := rfl
  have r2 : IntKind.u32.max = 4294967295 := rfl
  have r3 := not_u32 n hn
  have hg := hT.size
  go_enter Tryd.func24, Tryd.ntmps24
  go_wp2
  clear r3
  go_loopw [1, 7, 12] (fun x _ i wr => ∃ k : Nat, k ≤ s.size ∧ i = .int .i64 k ∧ x = .int .u32 (Ck.crc (4294967295 - n) (s.data.toList.take k)) ∧ ∃ m, wr = w.drewN m) (fun _ _ i _ => s.size - (intOf i).toNat)
  case atStart => exact ⟨0, by omega, rfl, rfl, 0, rfl⟩
  case round =>
    obtain ⟨k, hk, rfl, rfl, m, rfl⟩ := hrel
    have hlt := Ck.crc_lt (s.data.toList.take k) (4294967295 - n) (by omega)
    obtain ⟨N, hN⟩ : ∃ N, N = Ck.crc (4294967295 - n) (s.data.toList.take k) := ⟨_, rfl⟩
    rw [← hN] at hlt ⊢
    have HN := Lib.hid hN
    clear hN
    by_cases hk2 : k < s.size
    · have hb := (s[k]).toNat_lt
      have hx : N % 256 ^^^ (s[k]).toNat < 256 := Nat.xor_lt_two_pow (n := 8) (by omega) (by omega)
      have q2 : bits .xor .u8 ((N : Int) % 256) ((s[k]).toNat : Int) = ((N % 256 ^^^ (s[k]).toNat : Nat) : Int) := u8_xor_nat (N % 256) (s[k]).toNat (by omega) (by omega)
      have q3 := hT.at_ _ hx
      obtain ⟨X, hX⟩ : ∃ X, X = N % 256 ^^^ (s[k]).toNat := ⟨_, rfl⟩
      rw [← hX] at hx q2 q3
      have HX := Lib.hid hX
      clear hX
      go_wp2
      go_quiet (fail)
      go_wp2
      go_roundw
      case rel => exact ⟨k + 1, by omega, by go_num, by
                    rw [xor8 (Ck.st8 X) _ (Ck.steps_lt 8 X (by omega)) hlt, take_snoc s k hk2, Ck.crc_snoc, ← HN.out, Ck.st8_byte, ← HX.out], _, rfl⟩
      case measure => simp [intOf]; omega
    · have r3 := not_u32 N hlt
      go_wp2
      go_ret
      refine ⟨ret_int ?_, below_drewN (Kept.refl w) _⟩
      rw [Ck.add, HN.out, List.take_of_length_le (by rw [size_len]; omega)]
end Go.Proofs.YthkfkcjhmhjocaaDoor
