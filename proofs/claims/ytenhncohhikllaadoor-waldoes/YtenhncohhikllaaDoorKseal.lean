/-
  The walks of Sum, Add, sumBytes, Seal and Open.
-/
import Derived.Test.YtenhncohhikllaaDoorKmath
import Derived.Test.YtenhncohhikllaaDoorVtell
import Derived.Laws.BitsAllLaws
import Derived.Test.YtenhncohhikllaaDoorVless
import Derived.Deep.RegionHeld3
namespace Go.Proofs.YtenhncohhikllaaDoor
open Go.ChangeShapes Go.WideShapes Go.ChangeAt Go.RowKit

theorem and1 (n : Nat) (h : n < 4294967296) : bits .and .u32 (n : Int) 1 = ((n % 2 : Nat) : Int) := by
  have := u32_and_nat n 1 h (by decide)
  rw [Nat.and_one_is_mod] at this
  exact this
theorem xorP (n : Nat) (h : n < 4294967296) : bits .xor .u32 ((n : Int) / 2) 3988292384 = ((n / 2 ^^^ 3988292384 : Nat) : Int) := by
  have := u32_xor_nat (n / 2) 3988292384 (by omega) (by decide)
  rw [← this]
  rfl
theorem step_odd (j i : Nat) (h : Ck.steps j i % 2 = 1) : Ck.steps j i / 2 ^^^ 3988292384 = Ck.steps (j + 1) i := by rw [Ck.steps, Ck.one, if_pos h]
theorem step_even (j i : Nat) (h : ¬ Ck.steps j i % 2 = 1) : Ck.steps j i / 2 = Ck.steps (j + 1) i := by rw [Ck.steps, Ck.one, if_neg h]

set_option maxHeartbeats 400000 in
set_option maxRecDepth 100000 in
theorem fill_any (i : Nat) (g : Nat) (v0 : Value) (w : World) (hi : i < 256) (hc : w.cell? ⟨g, i, none⟩ = some v0) (hf : w.frozen? ⟨g, i, none⟩ = false) :
    Calls Tryd.prog 85 #[.int .i64 i, .pointer (some ⟨g, 0, none⟩)] w fun e w' => e = .returned (.tuple #[]) ∧ w' = w.setCell ⟨g, i, none⟩ (.int .u32 (Ck.st8 i)) := by
  go_enter Tryd.func85, Tryd.ntmps85
  go_wp2
  go_loop [3, 4, 7] (fun s _ k => ∃ j : Nat, j ≤ 8 ∧ k = .int .i64 j ∧ s = .int .u32 (Ck.steps j i)) (fun _ _ k => 8 - (intOf k).toNat)
  case atStart => exact ⟨0, by omega, rfl, rfl⟩
  case round =>
    obtain ⟨j, hj, rfl, rfl⟩ := hrel
    have hlt := Ck.steps_lt j i (by omega)
    by_cases h8 : j < 8
    · by_cases hodd : Ck.steps j i % 2 = 1
      · have hb : (bits BinOp.and IntKind.u32 (Ck.steps j i : Int) 1 == 1) = true := by rw [and1 _ hlt, hodd]; rfl
        have Hs := Lib.hid (step_odd j i hodd)
        clear hodd
        go_wp2
        go_round
        case rel => exact ⟨j + 1, by omega, by go_num, by rw [xorP _ hlt, Hs.out]⟩
        case measure => simp [intOf]; omega
      · have hb : (bits BinOp.and IntKind.u32 (Ck.steps j i : Int) 1 == 1) = false := by rw [and1 _ hlt, beq_eq_false_iff_ne]; omega
        have Hs := Lib.hid (step_even j i hodd)
        clear hodd
        go_wp2
        go_round
        case rel => exact ⟨j + 1, by omega, by go_num, by rw [← Hs.out]; go_num⟩
        case measure => simp [intOf]; omega
    · obtain rfl : j = 8 := by omega
      go_wp2
      go_end0
      exact ⟨rfl, rfl⟩

/-- the table when k rows are laid -/
def tabRow (k : Nat) : Array Value := ((List.range 256).map fun i => Value.int .u32 (if i < k then (Ck.st8 i : Int) else 0)).toArray
theorem tabRow_at (k i : Nat) (h : i < 256) : (tabRow k)[i]? = some (.int .u32 (if i < k then (Ck.st8 i : Int) else 0)) := by
  simp [tabRow, h]
theorem tabRow_set (k : Nat) (h : k < 256) : (tabRow k).setIfInBounds k (.int .u32 (Ck.st8 k)) = tabRow (k + 1) := by
  apply Array.ext_getElem?
  intro i
  rw [Array.getElem?_setIfInBounds]
  by_cases hi : i < 256
  · by_cases e : k = i
    · subst e
      rw [if_pos rfl, if_pos (by simp [tabRow]; omega), tabRow_at _ _ hi, if_pos (by omega)]
    · rw [if_neg e, tabRow_at _ _ hi, tabRow_at _ _ hi]
      by_cases h2 : i < k
      · rw [if_pos h2, if_pos (by omega)]
      · rw [if_neg h2, if_neg (by omega)]
  · rw [if_neg (by omega)]
    simp [tabRow, hi]
theorem infoTab : (Tryd.prog.info? 121).map (fun i => (i.zero, i.size, i.bytes)) = some (some (.agg (tabRow 0)), 256, 1024) := by kernel_rfl
theorem zeroTab (w : World) : (zeroValue 121).run Tryd.prog w = .ok (.agg (tabRow 0)) w := by
  obtain ⟨i0, hi, hz0, hz1, hz2⟩ := info_parts infoTab
  simp [zeroValue, typeInfo, hi, hz0]
/-- the table lies in a block -/
structure Steps (w : World) (g : Nat) : Prop where
  size : g < w.heap.size
  at_ : ∀ i, i < 256 → w.cell? ⟨g, i, none⟩ = some (.int .u32 (Ck.st8 i))
theorem Steps.kept {a b : World} {g : Nat} (t : Steps a g) (h : Kept a b) : Steps b g :=
  ⟨Nat.lt_of_lt_of_le t.size h.size, fun i hi => (Below.cell h (p := ⟨g, i, none⟩) t.size).trans (t.at_ i hi)⟩

set_option maxHeartbeats 400000 in
set_option maxRecDepth 100000 in
theorem makeSteps_any (w : World) :
    Calls Tryd.prog 70 #[] w fun e w' => e = .returned (.pointer (some ⟨w.heap.size, 0, none⟩)) ∧ Kept w w' ∧ Steps w' w.heap.size := by
  have hmf : ∀ (fn : Fn) (first cap : Array Value) (w : World), (Instr.makeFunc fn first cap).run Tryd.prog w = .ok (.func fn first cap) w := fun _ _ _ _ => rfl
  have hz := zeroTab
  go_enter Tryd.func70, Tryd.ntmps70
  go_wp2
  clear hz hmf
  go_loopw [5] (fun i wr => ∃ k : Nat, k ≤ 256 ∧ i = .int .i64 k ∧ wr = w.alloc (.cells (tabRow k) 121)) (fun i _ => 256 - (intOf i).toNat)
  case atStart => exact ⟨0, by omega, rfl, rfl⟩
  case round =>
    obtain ⟨k, hk, rfl, rfl⟩ := hrel
    by_cases hlt : k < 256
    · have hc : (w.alloc (.cells (tabRow k) 121)).cell? ⟨w.heap.size, k, none⟩ = some (.int .u32 0) := by
        rw [World.cell?_alloc_at _ _ _ _ rfl, tabRow_at _ _ hlt, if_neg (by omega)]
      have Hc := Lib.hid hc
      clear hc
      go_wp2_with fail
      refine (fill_any k w.heap.size (.int .u32 0) _ hlt Hc.out (by unfold World.frozen?; rw [heap_alloc_new]; simp)).mono ?_
      rintro e w' ⟨rfl, rfl⟩
      go_wp2
      go_roundw
      case rel => exact ⟨k + 1, by omega, by go_num, by rw [tabRow_set k hlt]⟩
      case measure => simp [intOf]; omega
    · obtain rfl : k = 256 := by omega
      go_wp2
      go_ret
      refine ⟨rfl, Kept.alloc (Kept.refl w) _, by simp, fun i hi => ?_⟩
      rw [World.cell?_alloc_at _ _ _ _ rfl, tabRow_at _ _ hi, if_pos hi]

theorem not_u32 (n : Nat) (h : n < 4294967296) : bits .xor .u32 4294967295 (n : Int) = ((4294967295 - n : Nat) : Int) := by
  have e := u32_xor_nat 4294967295 n (by decide) h
  have e2 : 4294967295 ^^^ n = 4294967295 - n := by
    have h1 : (BitVec.allOnes 32 ^^^ BitVec.ofNat 32 n).toNat = (~~~ BitVec.ofNat 32 n).toNat := by rw [BitVec.allOnes_xor]
    rw [BitVec.toNat_xor, BitVec.toNat_not, BitVec.toNat_allOnes, BitVec.toNat_ofNat, Nat.mod_eq_of_lt (by omega)] at h1
    simpa using h1
  rw [e2] at e
  exact e

theorem xor8 (a n : Nat) (ha : a < 4294967296) (hn : n < 4294967296) : bits .xor .u32 (a : Int) ((n : Int) / 256) = ((a ^^^ n / 256 : Nat) : Int) := by
  have := u32_xor_nat a (n / 256) ha (by omega)
  rw [← this]
  rfl
theorem take_snoc (s : ByteArray) (k : Nat) (h : k < s.size) : s.data.toList.take (k + 1) = s.data.toList.take k ++ [s[k]] := by
  rw [List.take_succ_eq_append_getElem (by simpa using h)]; rfl

set_option maxHeartbeats 400000 in
set_option maxRecDepth 100000 in
theorem addby_any (g : Nat) (n : Nat) (s : ByteArray) (w : World) (hn : n < 4294967296) (hs : s.size ≤ maxLen) (hT : Steps w g) :
    Calls Tryd.prog 87 #[.pointer (some ⟨g, 0, none⟩), .int .u32 n, .string s] w fun e w' => e = .returned (.int .u32 (Ck.add n s.data.toList)) ∧ Kept w w' := by
  unfold maxLen at hs
  have r1 : IntKind.u32.signed = false := rfl
  have r2 : IntKind.u32.max = 4294967295 := rfl
  have r3 := not_u32 n hn
  have hg := hT.size
  go_enter Tryd.func87, Tryd.ntmps87
  go_wp2
  clear r3
  go_loopw [1, 7, 12] (fun x _ i wr => ∃ k : Nat, k ≤ s.size ∧ i = .int .i64 k ∧ x = .int .u32 (Ck.crc (4294967295 - n) (s.data.toList.take k)) ∧ ∃ m, wr = w.drewN m) (fun _ _ i _ => s.size - (intOf i).toNat)
  case atStart => exact ⟨0, by omega, rfl, rfl, 0, rfl⟩
  case round =>
    obtain ⟨k, hk, rfl, rfl, m, rfl⟩ := hrel
    have hlt := Ck.crc_lt (s.data.toList.take k) (4294967295 - n) (by omega)
    obtain ⟨N, hN⟩ : ∃ N, N = Ck.crc (4294967295 - n) (s.data.toList.take k) := ⟨_, rfl⟩
    rw [← hN] at hlt ⊢
    have HN := Lib.hid hN
    clear hN
    by_cases hk2 : k < s.size
    · have hb := (s[k]).toNat_lt
      have hx : N % 256 ^^^ (s[k]).toNat < 256 := Nat.xor_lt_two_pow (n := 8) (by omega) (by omega)
      have q2 : bits .xor .u8 ((N : Int) % 256) ((s[k]).toNat : Int) = ((N % 256 ^^^ (s[k]).toNat : Nat) : Int) := u8_xor_nat (N % 256) (s[k]).toNat (by omega) (by omega)
      have q3 := hT.at_ _ hx
      obtain ⟨X, hX⟩ : ∃ X, X = N % 256 ^^^ (s[k]).toNat := ⟨_, rfl⟩
      rw [← hX] at hx q2 q3
      have HX := Lib.hid hX
      clear hX
      go_wp2
      go_quiet (fail)
      go_wp2
      go_roundw
      case rel => exact ⟨k + 1, by omega, by go_num, by
                    rw [xor8 (Ck.st8 X) _ (Ck.steps_lt 8 X (by omega)) hlt, take_snoc s k hk2, Ck.crc_snoc, ← HN.out, Ck.st8_byte, ← HX.out], _, rfl⟩
      case measure => simp [intOf]; omega
    · have r3 := not_u32 N hlt
      go_wp2
      go_ret
      refine ⟨ret_int ?_, below_drewN (Kept.refl w) _⟩
      rw [Ck.add, HN.out, List.take_of_length_le (by rw [size_len]; omega)]
end Go.Proofs.YtenhncohhikllaaDoor

namespace Go.Proofs.YtenhncohhikllaaDoor
open Go.ChangeShapes Go.WideShapes Go.ChangeAt Go.RowKit

/-- a sum's bytes, the first k laid -/
def fourTo (n k : Nat) : List UInt8 := (Ck.four n).take k ++ List.replicate (4 - k) 0
theorem fourTo_at (n k : Nat) (h : k < 4) : (byteRow (fourTo n k))[k]? = some (.int .u8 0) := by
  rw [byteRow_at]
  match k, h with
  | 0, _ | 1, _ | 2, _ | 3, _ => rfl
theorem four_eq (n : Nat) : Ck.four n = [UInt8.ofNat (n / 256 ^ 0), UInt8.ofNat (n / 256 ^ 1), UInt8.ofNat (n / 256 ^ 2), UInt8.ofNat (n / 256 ^ 3)] := by
  rw [Ck.four, show 256 ^ 0 = 1 from rfl, show 256 ^ 1 = 256 from rfl, show 256 ^ 2 = 65536 from rfl, show 256 ^ 3 = 16777216 from rfl, Nat.div_one]
theorem set_four (b : Nat → UInt8) (k : Nat) (h : k < 4) : ([b 0, b 1, b 2, b 3].take k ++ List.replicate (4 - k) 0).set k (b k) = [b 0, b 1, b 2, b 3].take (k + 1) ++ List.replicate (4 - (k + 1)) 0 := by
  match k, h with
  | 0, _ | 1, _ | 2, _ | 3, _ => rfl
theorem tups_mk (p : ByteArray) (x : List UInt8) (t e : Nat) (hp : str x = .string p) : Ending.returned (.tuple #[.string p, .int .i64 (t : Int), .int .i64 (e : Int)]) = .returned (tups (x, t, e)) := by
  unfold tups
  rw [hp]
theorem fourTo_set (n k : Nat) (h : k < 4) : (byteRow (fourTo n k)).setIfInBounds k (.int .u8 ((n : Int) / 2 ^ (8 * k) % 256)) = byteRow (fourTo n (k + 1)) := by
  have e : (n : Int) / 2 ^ (8 * k) % 256 = ((UInt8.ofNat (n / 256 ^ k)).toNat : Int) := by
    rw [u8_of _ (Int.ediv_nonneg (by omega) (Int.pow_nonneg (by decide))), shift_toNat _ (by omega), Int.toNat_natCast]
  rw [e, byteRow_set]
  refine congrArg byteRow ?_
  unfold fourTo
  rw [four_eq]
  exact set_four (fun k => UInt8.ofNat (n / 256 ^ k)) k h
theorem infoFour : (Tryd.prog.info? 129).map (fun i => (i.zero, i.size, i.bytes)) = some (some (.agg (byteRow (fourTo 0 0))), 4, 4) := by kernel_rfl
theorem zeroFour (n : Nat) (w : World) : (zeroValue 129).run Tryd.prog w = .ok (.agg (byteRow (fourTo n 0))) w := by
  obtain ⟨i0, hi, hz0, hz1, hz2⟩ := info_parts infoFour
  simp [zeroValue, typeInfo, hi, hz0, fourTo]
theorem conv_new (W : World) (t : TypeId) (l : List UInt8) (k : Nat) (hk : l.length = k) :
    (convert 89 9 (.slice (some ⟨W.heap.size, 0, none⟩) k k)).run Tryd.prog (W.alloc (.cells (byteRow l) t)) = .ok (.string ⟨l.toArray⟩) (W.alloc (.cells (byteRow l) t)) := by
  subst hk
  refine run_convert_bytes_back _ _ _ 5 _ _ l Tryd.underlying89 Tryd.underlying5 Tryd.underlying9 fun j hj => ?_
  have hadd : (⟨W.heap.size, 0, none⟩ : Addr).add j = ⟨W.heap.size, j, none⟩ := by unfold Addr.add; split <;> simp_all
  rw [hadd, World.cell?_alloc_at _ _ _ _ rfl, byteRow_at, List.getElem?_eq_getElem hj]
  rfl

set_option maxHeartbeats 400000 in
theorem sumBytes_any (n : Nat) (w : World) (_hn : n < 4294967296) :
    Calls Tryd.prog 80 #[.int .u32 n] w fun e w' => e = .returned (str (Ck.four n)) ∧ Kept w w' := by
  have hz := zeroFour n
  go_enter Tryd.func80, Tryd.ntmps80
  go_wp2
  clear hz
  go_loopw [4, 5] (fun _ i wr => ∃ k : Nat, k ≤ 4 ∧ i = .int .i64 k ∧ wr = w.alloc (.cells (byteRow (fourTo n k)) 129)) (fun _ i _ => 4 - (intOf i).toNat)
  case atStart => exact ⟨0, by omega, rfl, rfl⟩
  case round =>
    obtain ⟨k, hk, rfl, rfl⟩ := hrel
    by_cases hlt : k < 4
    · have hcell := fourTo_at n k hlt
      have Hset := Lib.hid (fourTo_set n k hlt)
      go_wp2
      go_roundw
      case rel => exact ⟨k + 1, by omega, by go_num, by rw [Hset.out]⟩
      case measure => simp [intOf]; omega
    · obtain rfl : k = 4 := by omega
      have hcv := conv_new w 129 (fourTo n 4) 4 rfl
      go_wp2
      go_ret
      exact ⟨rfl, Kept.alloc (Kept.refl w) _⟩

theorem add_any (n : Nat) (s : ByteArray) (w : World) (hn : n < 4294967296) (hs : s.size ≤ maxLen) :
    Calls Tryd.prog 92 #[.int .u32 n, .string s] w fun e w' => e = .returned (.int .u32 (Ck.add n s.data.toList)) ∧ Kept w w' := by
  go_enter Tryd.func92, Tryd.ntmps92
  go_wp2_with fail
  refine (makeSteps_any _).mono ?_
  rintro e w1 ⟨rfl, k1, s1⟩
  go_wp2_with fail
  refine (addby_any _ n s _ hn hs s1).mono ?_
  rintro e w2 ⟨rfl, k2⟩
  go_wp2
  go_ret
  exact ⟨rfl, k1.trans k2⟩
theorem sum_any (s : ByteArray) (w : World) (hs : s.size ≤ maxLen) :
    Calls Tryd.prog 81 #[.string s] w fun e w' => e = .returned (.int .u32 (Ck.sum s.data.toList)) ∧ Kept w w' := by
  go_enter Tryd.func81, Tryd.ntmps81
  go_wp2_with fail
  refine (add_any 0 s _ (by decide) hs).mono ?_
  rintro e w1 ⟨rfl, k1⟩
  go_wp2
  go_ret
  exact ⟨rfl, k1⟩

theorem str_cat (a b : ByteArray) (l : List UInt8) (h : a.data.toList ++ b.data.toList = l) : Ending.returned (.string (a ++ b)) = .returned (str l) := by
  subst h
  have e : a ++ b = ⟨(a.data.toList ++ b.data.toList).toArray⟩ := by
    apply ByteArray.ext
    simp
  rw [e]
  rfl
/-- bytes as a string, by name -/
theorem name_str (l : List UInt8) : ∃ p : ByteArray, str l = .string p ∧ p.size = l.length ∧ p.data.toList = l :=
  ⟨⟨l.toArray⟩, rfl, by show l.toArray.size = _; simp, rfl⟩

set_option maxHeartbeats 400000 in
theorem seal_any (s : ByteArray) (w : World) (hs : s.size ≤ 140737488355328) (hT : Tab w) :
    Calls Tryd.prog 64 #[.string s] w fun e w' => e = .returned (str (Ck.seal_ s.data.toList)) ∧ Kept w w' := by
  have hz := Vn.vsz_pos s.size
  have hl := Lib.hid (size_len s)
  go_enter Tryd.func64, Tryd.ntmps64
  go_wp2_with fail
  refine (text_any s _ hs hT).mono ?_
  rintro e w1 ⟨rfl, k1⟩
  obtain ⟨p, hp, sp, lp⟩ := name_str (Vn.vput s.size ++ s.data.toList)
  rw [hp]
  have sp' : p.size ≤ s.size + 9 := by rw [sp, List.length_append, Vn.vput_length, hl.out]; omega
  have Lp := Lib.hid lp
  clear hp sp lp
  go_wp2_with fail
  refine (sum_any s _ (by unfold maxLen; omega)).mono ?_
  rintro e w2 ⟨rfl, k2⟩
  go_wp2_with fail
  refine (sumBytes_any _ _ (Ck.add_lt _ _)).mono ?_
  rintro e w3 ⟨rfl, k3⟩
  obtain ⟨q, hq, sq, lq⟩ := name_str (Ck.four (Ck.add 0 s.data.toList))
  rw [hq]
  have sq' : q.size ≤ 4 := by rw [sq, Ck.four_length]; exact Nat.le_refl _
  have Lq := Lib.hid lq
  clear hq sq lq
  go_wp2
  go_ret
  refine ⟨str_cat p q _ ?_, (k1.trans k2).trans k3⟩
  rw [Lp.out, Lq.out, Ck.seal_, hl.out]; rfl

theorem extract_str (s : ByteArray) (t n : Nat) : s.extract t (t + n) = ⟨((s.data.toList.drop t).take n).toArray⟩ := by
  apply ByteArray.ext
  apply Array.toList_inj.1
  simp [ByteArray.data_extract, List.extract_eq_take_drop]

set_option maxHeartbeats 1000000 in
theorem openby_any (g : Nat) (s : ByteArray) (a : Int) (w : World) (hs : s.size ≤ 140737488355328) (h1 : -9223372036854775808 ≤ a) (h2 : a ≤ 9223372036854775807) (hT : Tab w) (hS : Steps w g) :
    Calls Tryd.prog 71 #[.pointer (some ⟨g, 0, none⟩), .string s, .int .i64 a] w fun e w' => e = .returned (tups (Ck.open_ s.data.toList a)) ∧ Kept w w' := by
  have Hl := Lib.hid (size_len s)
  obtain ⟨g1, g2, g3⟩ := Ck.vcut_le s.data.toList a
  rw [Hl.out] at g2
  have Hv : Hid (Ck.open_ s.data.toList a = Ck.openOf s.data.toList (vcut s.data.toList a)) := rfl
  obtain ⟨⟨x, t, e0⟩, hg⟩ : ∃ x, x = vcut s.data.toList a := ⟨_, rfl⟩
  rw [← hg] at g1 g2 g3 Hv
  simp only at g1 g2 g3
  have Hg := Lib.hid hg
  clear hg
  obtain ⟨p, hp, sp, lp⟩ := name_str x
  rw [← sp] at g1
  have Hp := Lib.hid hp
  have Lp := Lib.hid lp
  clear hp sp lp
  go_enter Tryd.func71, Tryd.ntmps71
  go_wp2_with fail
  refine (cut_any s a _ hs h1 h2 hT).mono ?_
  rintro e w1 ⟨rfl, k1⟩
  rw [← Hg.out]
  unfold tups
  simp only
  rw [Hp.out]
  by_cases b1 : e0 = 0
  · subst b1
    by_cases b2 : s.size - t < 4
    · go_wp2
      go_ret3
      refine ⟨?_, k1⟩
      rw [Hv.out, Ck.openOf, if_neg (by simp), if_pos (by simp only; rw [Hl.out]; exact b2)]
      rfl
    · have b3 : t + 4 ≤ s.size := by omega
      obtain ⟨q, hq, sq, lq⟩ := name_str (Ck.four (Ck.add 0 p.data.toList))
      have Hq := Lib.hid hq
      have Lq := Lib.hid lq
      clear hq sq lq
      have s1 : Steps w1.drew g := (hS.kept k1).kept (Kept.drew (Kept.refl _))
      have r1 : (t : Int) ≤ (t : Int) + 4 := by omega
      have r2 : 0 ≤ (t : Int) + 4 := by omega
      have r3 : (t : Int) + 4 ≤ s.size := by omega
      have r4 : ((t : Int) + 4).toNat = t + 4 := by omega
      by_cases b4 : (s.data.toList.drop t).take 4 = Ck.four (Ck.sum x)
      · have hE : ((s.extract t (t + 4)).toList != q.toList) = false := by
          rw [extract_str, toList_eq, toList_eq, Lq.out, Lp.out]
          show ((s.data.toList.drop t).take 4 != Ck.four (Ck.sum x)) = false
          rw [b4]; simp
        have hE' : ((s.extract t (t + 4)).toList == q.toList) = true := by simpa [bne] using hE
        have Hb := Lib.hid b4
        clear b4
        go_wp2_with fail
        go_region_held3 (fun w' => Steps w' g) (first | exact s1 | exact s1.kept k2 | exact (s1.kept k2).kept k3)
          (first
            | (go_at_call 87; refine (addby_any g 0 p _ (by decide) (by unfold maxLen; omega) (by assumption)).mono ?_; rintro e w2 ⟨rfl, k2⟩)
            | (go_at_call 80; refine (sumBytes_any _ _ (Ck.add_lt _ _)).mono ?_; rintro e w3 ⟨rfl, k3⟩; rw [Hq.out]))
        go_wp2
        go_ret3
        refine ⟨?_, ((k1.trans (Kept.drew (Kept.refl _))).trans k2).trans k3⟩
        rw [Hv.out, Ck.openOf, if_neg (by simp), if_neg (by simp only; rw [Hl.out]; exact b2), if_pos Hb.out]
        exact tups_mk p x (t + 4) 0 Hp.out
      · have hE : ((s.extract t (t + 4)).toList != q.toList) = true := by
          rw [extract_str, toList_eq, toList_eq, Lq.out, Lp.out]
          show ((s.data.toList.drop t).take 4 != Ck.four (Ck.sum x)) = true
          rw [bne_iff_ne]; exact b4
        have hE' : ((s.extract t (t + 4)).toList == q.toList) = false := by simpa [bne] using hE
        go_wp2_with fail
        go_region_held3 (fun w' => Steps w' g) (first | exact s1 | exact s1.kept k2 | exact (s1.kept k2).kept k3)
          (first
            | (go_at_call 87; refine (addby_any g 0 p _ (by decide) (by unfold maxLen; omega) (by assumption)).mono ?_; rintro e w2 ⟨rfl, k2⟩)
            | (go_at_call 80; refine (sumBytes_any _ _ (Ck.add_lt _ _)).mono ?_; rintro e w3 ⟨rfl, k3⟩; rw [Hq.out]))
        go_wp2
        go_ret3
        refine ⟨?_, ((k1.trans (Kept.drew (Kept.refl _))).trans k2).trans k3⟩
        rw [Hv.out, Ck.openOf, if_neg (by simp), if_neg (by simp only; rw [Hl.out]; exact b2), if_neg b4]
        rfl
  · go_wp2
    go_ret3
    refine ⟨?_, k1⟩
    rw [Hv.out, Ck.openOf, if_pos b1]
    rfl

theorem open_any (s : ByteArray) (a : Int) (w : World) (hs : s.size ≤ 140737488355328) (h1 : -9223372036854775808 ≤ a) (h2 : a ≤ 9223372036854775807) (hT : Tab w) :
    Calls Tryd.prog 56 #[.string s, .int .i64 a] w fun e w' => e = .returned (tups (Ck.open_ s.data.toList a)) ∧ Kept w w' := by
  go_enter Tryd.func56, Tryd.ntmps56
  go_wp2_with fail
  refine (makeSteps_any _).mono ?_
  rintro e w1 ⟨rfl, k1, s1⟩
  go_wp2_with fail
  refine (openby_any _ s a _ hs h1 h2 (hT.kept k1) s1).mono ?_
  rintro e w2 ⟨rfl, k2⟩
  unfold tups
  go_wp2
  go_ret3
  exact ⟨rfl, k1.trans k2⟩
end Go.Proofs.YtenhncohhikllaaDoor
