/-
  The walk of the law CheckBits.
-/
import Derived.Test.YthkfkcjhmhjocaaDoorKback
import Derived.Test.YthkfkcjhmhjocaaDoorVbits
import Derived.Lib.AppendStr
import Derived.BigRegion
namespace Go.Proofs.YthkfkcjhmhjocaaDoor
open Go.ChangeShapes Go.WideShapes Go.ChangeAt Go.RowKit

theorem strCells_at (s : ByteArray) (i : Nat) : (Lib.strCells s)[i]? = (s.data.toList[i]?).map fun b => Value.int .u8 b.toNat := by
  simp [Lib.strCells]
theorem strCells_set (s : ByteArray) (i : Nat) (d : UInt8) : (Lib.strCells s).set i (.int .u8 (d.toNat : Int)) = (s.data.toList.set i d).map fun b => Value.int .u8 b.toNat := by
  rw [List.map_set]; simp [Lib.strCells]
/-- a byte one bit of which is turned -/
theorem turned (c : UInt8) (t : Nat) (ht : t ≤ 7) : ∃ d : UInt8, c ≠ d ∧ bits BinOp.xor IntKind.u8 (c.toNat : Int) (2 ^ t % 256) = (d.toNat : Int) := by
  have hc := c.toNat_lt
  have h2 : 2 ^ t < 256 := by
    have : 2 ^ t ≤ 2 ^ 7 := Nat.pow_le_pow_right (by decide) ht
    omega
  have hp : 0 < 2 ^ t := Nat.pow_pos (by decide)
  have hx : c.toNat ^^^ 2 ^ t < 256 := Nat.xor_lt_two_pow (n := 8) (by omega) (by omega)
  refine ⟨UInt8.ofNat (c.toNat ^^^ 2 ^ t), fun e => ?_, ?_⟩
  · have e2 := congrArg UInt8.toNat e
    rw [Vn.ofNat_toNat _ hx] at e2
    have e3 := congrArg (c.toNat ^^^ ·) e2
    simp only [Nat.xor_self, ← Nat.xor_assoc, Nat.zero_xor] at e3
    omega
  · rw [Vn.ofNat_toNat _ hx, ← u8_xor_nat c.toNat (2 ^ t) (by omega) h2]
    have e : ((2 ^ t : Nat) : Int) = 2 ^ t % 256 := by
      have : ((2 ^ t : Nat) : Int) = (2 : Int) ^ t := by simp
      rw [← this]
      omega
    rw [e]
theorem conv_own {w : World} {base g n cap : Nat} {xs : List Value} (h : w.ownsRow base 5 1 (.slice (some ⟨g, 0, none⟩) n cap) n xs) (l : List UInt8) (hl : l.length = n) (hx : xs = l.map fun b => Value.int .u8 b.toNat) :
    (convert 38 9 (.slice (some ⟨g, 0, none⟩) n cap)).run Tryd.prog w.drew = .ok (.string ⟨l.toArray⟩) w.drew := by
  subst hl hx
  refine run_convert_bytes_back _ _ _ 5 _ _ l Tryd.underlying38 Tryd.underlying5 Tryd.underlying9 fun j hj => ?_
  have hadd : (⟨g, 0, none⟩ : Addr).add j = ⟨g, j, none⟩ := by unfold Addr.add; split <;> simp_all
  show w.cell? _ = _
  rw [hadd, World.ownsRow.cellAt h j (by omega), List.getElem?_map, List.getElem?_eq_getElem hj]
  rfl
theorem own_bytes0 (w : World) : (w.alloc (.cells #[] 5)).ownsRow w.heap.size 5 1 (.slice (some ⟨w.heap.size, 0, none⟩) 0 0) 0 [] :=
  ⟨rfl, .inr ⟨w.heap.size, 0, #[], rfl, Nat.le_refl _, heap_alloc_new w _, Nat.le_refl _, Nat.zero_le _, rfl, rfl⟩⟩

set_option maxHeartbeats 1000000 in
set_option maxRecDepth 100000 in
theorem cbits_walk (s : ByteArray) (a b : Int) (w : World) (hs : s.size ≤ maxLen) (_a0 : -9223372036854775808 ≤ a) (_a1 : a ≤ 9223372036854775807) (_b0 : -9223372036854775808 ≤ b) (_b1 : b ≤ 9223372036854775807) (hT : Tab w) :
    Calls Tryd.prog 7 #[.string s, .int .i64 a, .int .i64 b] w fun e w' => e = .returned (.bool true) ∧ Kept w w' := by
  unfold maxLen at hs
  obtain ⟨i0, hi, hz0, hz1, hz2⟩ := info_parts infoU8
  have Hi := Lib.hid hi
  have Hz0 := Lib.hid hz0
  have Hz1 := Lib.hid hz1
  have Hz2 := Lib.hid hz2
  clear hi hz0 hz1 hz2
  by_cases he : s.size = 0
  · have he2 : ((min (s.size : Int) 300) == 0) = true := by rw [beq_iff_eq]; omega
    obtain rfl : s = ⟨#[]⟩ := ByteArray.ext (Array.eq_empty_of_size_eq_zero he)
    clear he he2
    go_enter Tryd.func7, Tryd.ntmps7
    go_wp2_with fail
    refine (fixed2_any _ hT).mono ?_
    rintro e w1 ⟨rfl, k1⟩
    go_wp2
    go_ret
    exact ⟨rfl, k1⟩
  have hne : (((min (min (s.size : Int) 300).toNat s.size : Nat) : Int) == 0) = false := by rw [beq_eq_false_iff_ne]; omega
  go_enter Tryd.func7, Tryd.ntmps7
  go_wp2_with fail
  have ss : (s.extract 0 (min (s.size : Int) 300).toNat).size ≤ 300 := by simp only [ByteArray.size_extract]; omega
  have s1 : 1 ≤ (s.extract 0 (min (s.size : Int) 300).toNat).size := by simp only [ByteArray.size_extract]; omega
  clear hne he hs
  generalize s.extract 0 (min (s.size : Int) 300).toNat = S at ss s1 ⊢
  refine (seal_any S _ (by omega) hT).mono ?_
  rintro e w1 ⟨rfl, k1⟩
  have t1 := hT.kept k1
  obtain ⟨q, hq, sq, lq⟩ := name_str (Ck.seal_ S.data.toList)
  rw [hq]
  have hz1 := Vn.vsz_pos S.size
  have sq1 : q.size = Vn.vsz S.size + S.size + 4 := by rw [sq, Ck.seal_length, size_len]
  obtain ⟨M, hM⟩ : ∃ M : Nat, bits BinOp.and IntKind.i64 a 65535 = (M : Int) := ⟨(bits BinOp.and IntKind.i64 a 65535).toNat, by have := and_mask a 65535 (by decide); simp only [Int.cast_ofNat_Int] at this; omega⟩
  have r1 : (bits BinOp.and IntKind.i64 a 65535).tmod ((S.size : Int) + 4) = ((M % (S.size + 4) : Nat) : Int) := by rw [hM, Int.tmod_eq_emod_of_nonneg (by omega)]; rfl
  have hJ : M % (S.size + 4) < S.size + 4 := Nat.mod_lt _ (by omega)
  generalize M % (S.size + 4) = J at r1 hJ
  have r2 : (q.size : Int) - S.size - 4 = (Vn.vsz S.size : Int) := by omega
  have hq2 : q.size ≤ 313 := by omega
  obtain ⟨V, hV⟩ : ∃ V, V = Vn.vsz S.size := ⟨_, rfl⟩
  rw [← hV] at r2 sq1 hz1
  have hqV : V + J < q.size := by omega
  have Hsq := Lib.hid sq1
  have Lq := Lib.hid lq
  have HV := Lib.hid hV
  have hV1 := hz1.1
  have hV9 := hz1.2
  clear hq sq lq sq1 hV hM hz1
  go_wp2_with (first
    | (at_builtin; refine Lib.wpList_append_own_string _ rfl _ _ 38 9 rfl w1.heap.size 5 i0 Tryd.underlying38 Tryd.underlying9 Hi.out Hz0.out Hz1.out Hz2.out _ 0 [] rfl (own_bytes0 _) q rfl (by unfold maxLen; omega) (by omega) (by simp) ?_))
  intro v' w2 hown hgrow _
  obtain ⟨g, cap, rfl, hg1, hg2⟩ := hown.form (by omega)
  have k2 : Kept w1 w2 := kept_grown (Kept.alloc (Kept.refl _) _) hgrow (fun k hk => by simp [Value.ownBlock] at hk; omega)
  have hkq : V + J < q.data.toList.length := by rw [size_len]; exact hqV
  have hcell : w2.cell? ⟨g, V + J, none⟩ = some (.int .u8 ((q.data.toList[V + J]).toNat : Int)) := by
    rw [World.ownsRow.cellAt hown (V + J) (by omega), strCells_at, List.getElem?_eq_getElem hkq]
    rfl
  have hfz := World.ownsRow.frozenAt hown (V + J)
  obtain ⟨t, ht⟩ : ∃ t : Nat, bits BinOp.and IntKind.i64 b 7 = (t : Int) := ⟨(bits BinOp.and IntKind.i64 b 7).toNat, by have := and_mask b 7 (by decide); simp only [Int.cast_ofNat_Int] at this; omega⟩
  have ht7 : t ≤ 7 := by have := and_mask b 7 (by decide); simp only [Int.cast_ofNat_Int] at this; omega
  obtain ⟨c, hc⟩ : ∃ c, c = q.data.toList[V + J] := ⟨_, rfl⟩
  rw [← hc] at hcell
  have hcb := c.toNat_lt
  obtain ⟨d, hd, hX⟩ := turned c t ht7
  have hown3 := (World.ownsRow.stored hown (V + J) (.int .u8 (d.toNat : Int))).1
  have hcv := conv_own hown3 (q.data.toList.set (V + J) d) (by rw [List.length_set, size_len]) (strCells_set q (V + J) d)
  have hopen : Ck.open_ (q.data.toList.set (V + J) d) 0 = ([], 0, 5) := by
    have hl := size_len S
    have e := Ck.open_turn S.data.toList J d (by omega) (by omega) (by
      rw [hl, ← HV.out, ← Lq.out, List.getElem?_eq_getElem hkq, ← hc]
      intro e
      exact hd (Option.some.inj e))
    rw [hl, ← HV.out, ← Lq.out] at e
    exact e
  obtain ⟨p, hp, sp, lp⟩ := name_str (q.data.toList.set (V + J) d)
  rw [show (Value.string ⟨(q.data.toList.set (V + J) d).toArray⟩) = .string p from hp] at hcv
  rw [← lp] at hopen
  have sp2 : p.size ≤ 313 := by rw [sp, List.length_set, size_len]; exact hq2
  have k3 : Kept w1 (w2.setCell ⟨g, V + J, none⟩ (.int .u8 (d.toNat : Int))).drew := Kept.drew (Below.setCell k2 (p := ⟨g, V + J, none⟩) hg1 _)
  have t3 := t1.kept k3
  have Hopen := Lib.hid hopen
  clear hc hown hgrow hopen hp sp lp hown3 hkq
  go_wp2
  go_region
  all_goals go_wp2_with fail
  refine (open_any p 0 _ (by omega) (by omega) (by omega) t3).mono ?_
  rintro e w4 ⟨rfl, k4⟩
  rw [Hopen.out]
  unfold tups
  simp only
  rw [show str [] = .string ⟨#[]⟩ from rfl]
  go_wp2_with fail
  refine (fixed2_any _ (t3.kept k4)).mono ?_
  rintro e w5 ⟨rfl, k5⟩
  go_wp2
  go_ret
  exact ⟨rfl, ((k1.trans k3).trans k4).trans k5⟩
end Go.Proofs.YthkfkcjhmhjocaaDoor
