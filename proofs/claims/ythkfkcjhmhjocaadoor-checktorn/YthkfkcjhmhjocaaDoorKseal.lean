/-
  The walks of Sum, Add, sumBytes, Seal and Open.
-/
import Derived.Test.YthkfkcjhmhjocaaDoorKsteps
import Derived.Test.YthkfkcjhmhjocaaDoorVless
import Derived.Deep.RegionHeld3
namespace Go.Proofs.YthkfkcjhmhjocaaDoor
open Go.ChangeShapes Go.WideShapes Go.ChangeAt Go.RowKit

/-- a sum's bytes, the first k laid -/
def fourTo (n k : Nat) : List UInt8 := (Ck.four n).take k ++ List.replicate (4 - k) 0
theorem fourTo_at (n k : Nat) (h : k < 4) : (byteRow (fourTo n k))[k]? = some (.int .u8 0) := by
  rw [byteRow_at]
  match k, h with
  | 0, _ | 1, _ | 2, _ | 3, _ => rfl
theorem four_eq (n : Nat) : Ck.four n = [UInt8.ofNat (n / 256 ^ 0), UInt8.ofNat (n / 256 ^ 1), UInt8.ofNat (n / 256 ^ 2), UInt8.ofNat (n / 256 ^ 3)] := by
  rw [Ck.four, show 256 ^ 0 = 1 from rfl, show 256 ^ 1 = 256 from rfl, show 256 ^ 2 = 65536 from rfl, show 256 ^ 3 = 16777216 from rfl, Nat.div_one]
theorem set_four (b : Nat → UInt8) (k : Nat) (h : k < 4) : ([b 0, b 1, b 2, b 3].take k ++ List.replicate (4 - k) 0).set k (b k) = [b 0, b 1, b 2, b 3].take (k + 1) ++ List.replicate (4 - (k + 1)) 0 := by
  match k, h with
  | 0, _ | 1, _ | 2, _ | 3, _ => rfl
theorem tups_mk (p : ByteArray) (x : List UInt8) (t e : Nat) (hp : str x = .string p) : Ending.returned (.tuple #[.string p, .int .i64 (t : Int), .int .i64 (e : Int)]) = .returned (tups (x, t, e)) := by
  unfold tups
  rw [hp]
theorem fourTo_set (n k : Nat) (h : k < 4) : (byteRow (fourTo n k)).setIfInBounds k (.int .u8 ((n : Int) / 2 ^ (8 * k) % 256)) = byteRow (fourTo n (k + 1)) := by
  have e : (n : Int) / 2 ^ (8 * k) % 256 = ((UInt8.ofNat (n / 256 ^ k)).toNat : Int) := by
    rw [u8_of _ (Int.ediv_nonneg (by omega) (Int.pow_nonneg (by decide))), shift_toNat _ (by omega), Int.toNat_natCast]
  rw [e, byteRow_set]
  refine congrArg byteRow ?_
  unfold fourTo
  rw [four_eq]
  exact set_four (fun k => UInt8.ofNat (n / 256 ^ k)) k h
theorem infoFour : (Tryd.prog.info? 53).map (fun i => (i.zero, i.size, i.bytes)) = some (some (.agg (byteRow (fourTo 0 0))), 4, 4) := by kernel_rfl
theorem zeroFour (n : Nat) (w : World) : (zeroValue 53).run Tryd.prog w = .ok (.agg (byteRow (fourTo n 0))) w := by
  obtain ⟨i0, hi, hz0, hz1, hz2⟩ := info_parts infoFour
  simp [zeroValue, typeInfo, hi, hz0, fourTo]
theorem conv_new (W : World) (t : TypeId) (l : List UInt8) (k : Nat) (hk : l.length = k) :
    (convert 38 9 (.slice (some ⟨W.heap.size, 0, none⟩) k k)).run Tryd.prog (W.alloc (.cells (byteRow l) t)) = .ok (.string ⟨l.toArray⟩) (W.alloc (.cells (byteRow l) t)) := by
  subst hk
  refine run_convert_bytes_back _ _ _ 5 _ _ l Tryd.underlying38 Tryd.underlying5 Tryd.underlying9 fun j hj => ?_
  have hadd : (⟨W.heap.size, 0, none⟩ : Addr).add j = ⟨W.heap.size, j, none⟩ := by unfold Addr.add; split <;> simp_all
  rw [hadd, World.cell?_alloc_at _ _ _ _ rfl, byteRow_at, List.getElem?_eq_getElem hj]
  rfl

set_option maxHeartbeats 400000 in
theorem sumBytes_any (n : Nat) (w : World) (_hn : n < 4294967296) :
    Calls Tryd.prog 27 #[.int .u32 n] w fun e w' => e = .returned (str (Ck.four n)) ∧ Kept w w' := by
  have hz := zeroFour n
  go_enter Tryd.func27, Tryd.ntmps27
  go_wp2
  clear hz
  go_loopw [4, 5] (fun _ i wr => ∃ k : Nat, k ≤ 4 ∧ i = .int .i64 k ∧ wr = w.alloc (.cells (byteRow (fourTo n k)) 53)) (fun _ i _ => 4 - (intOf i).toNat)
  case atStart => exact ⟨0, by omega, rfl, rfl⟩
  case round =>
    obtain ⟨k, hk, rfl, rfl⟩ := hrel
    by_cases hlt : k < 4
    · have hcell := fourTo_at n k hlt
      have Hset := Lib.hid (fourTo_set n k hlt)
      go_wp2
      go_roundw
      case rel => exact ⟨k + 1, by omega, by go_num, by rw [Hset.out]⟩
      case measure => simp [intOf]; omega
    · obtain rfl : k = 4 := by omega
      have hcv := conv_new w 53 (fourTo n 4) 4 rfl
      go_wp2
      go_ret
      exact ⟨rfl, Kept.alloc (Kept.refl w) _⟩

theorem add_any (n : Nat) (s : ByteArray) (w : World) (hn : n < 4294967296) (hs : s.size ≤ maxLen) :
    Calls Tryd.prog 13 #[.int .u32 n, .string s] w fun e w' => e = .returned (.int .u32 (Ck.add n s.data.toList)) ∧ Kept w w' := by
  go_enter Tryd.func13, Tryd.ntmps13
  go_wp2_with fail
  refine (makeSteps_any _).mono ?_
  rintro e w1 ⟨rfl, k1, s1⟩
  go_wp2_with fail
  refine (addby_any _ n s _ hn hs s1).mono ?_
  rintro e w2 ⟨rfl, k2⟩
  go_wp2
  go_ret
  exact ⟨rfl, k1.trans k2⟩
theorem sum_any (s : ByteArray) (w : World) (hs : s.size ≤ maxLen) :
    Calls Tryd.prog 11 #[.string s] w fun e w' => e = .returned (.int .u32 (Ck.sum s.data.toList)) ∧ Kept w w' := by
  go_enter Tryd.func11, Tryd.ntmps11
  go_wp2_with fail
  refine (add_any 0 s _ (by decide) hs).mono ?_
  rintro e w1 ⟨rfl, k1⟩
  go_wp2
  go_ret
  exact ⟨rfl, k1⟩

theorem str_cat (a b : ByteArray) (l : List UInt8) (h : a.data.toList ++ b.data.toList = l) : Ending.returned (.string (a ++ b)) = .returned (str l) := by
  subst h
  have e : a ++ b = ⟨(a.data.toList ++ b.data.toList).toArray⟩ := by
    apply ByteArray.ext
    simp
  rw [e]
  rfl
/-- bytes as a string, by name -/
theorem name_str (l : List UInt8) : ∃ p : ByteArray, str l = .string p ∧ p.size = l.length ∧ p.data.toList = l :=
  ⟨⟨l.toArray⟩, rfl, by show l.toArray.size = _; simp, rfl⟩

set_option maxHeartbeats 400000 in
theorem seal_any (s : ByteArray) (w : World) (hs : s.size ≤ 140737488355328) (hT : Tab w) :
    Calls Tryd.prog 15 #[.string s] w fun e w' => e = .returned (str (Ck.seal_ s.data.toList)) ∧ Kept w w' := by
  have hz := Vn.vsz_pos s.size
  have hl := Lib.hid (size_len s)
  go_enter Tryd.func15, Tryd.ntmps15
  go_wp2_with fail
  refine (text_any s _ hs hT).mono ?_
  rintro e w1 ⟨rfl, k1⟩
  obtain ⟨p, hp, sp, lp⟩ := name_str (Vn.vput s.size ++ s.data.toList)
  rw [hp]
  have sp' : p.size ≤ s.size + 9 := by rw [sp, List.length_append, Vn.vput_length, hl.out]; omega
  have Lp := Lib.hid lp
  clear hp sp lp
  go_wp2_with fail
  refine (sum_any s _ (by unfold maxLen; omega)).mono ?_
  rintro e w2 ⟨rfl, k2⟩
  go_wp2_with fail
  refine (sumBytes_any _ _ (Ck.add_lt _ _)).mono ?_
  rintro e w3 ⟨rfl, k3⟩
  obtain ⟨q, hq, sq, lq⟩ := name_str (Ck.four (Ck.add 0 s.data.toList))
  rw [hq]
  have sq' : q.size ≤ 4 := by rw [sq, Ck.four_length]; exact Nat.le_refl _
  have Lq := Lib.hid lq
  clear hq sq lq
  go_wp2
  go_ret
  refine ⟨str_cat p q _ ?_, (k1.trans k2).trans k3⟩
  rw [Lp.out, Lq.out, Ck.seal_, hl.out]; rfl

theorem extract_str (s : ByteArray) (t n : Nat) : s.extract t (t + n) = ⟨((s.data.toList.drop t).take n).toArray⟩ := by
  apply ByteArray.ext
  apply Array.toList_inj.1
  simp [ByteArray.data_extract, List.extract_eq_take_drop]

set_option maxHeartbeats 1000000 in
theorem openby_any (g : Nat) (s : ByteArray) (a : Int) (w : World) (hs : s.size ≤ 140737488355328) (h1 : -9223372036854775808 ≤ a) (h2 : a ≤ 9223372036854775807) (hT : Tab w) (hS : Steps w g) :
    Calls Tryd.prog 30 #[.pointer (some ⟨g, 0, none⟩), .string s, .int .i64 a] w fun e w' => e = .returned (tups (Ck.open_ s.data.toList a)) ∧ Kept w w' := by
  have Hl := Lib.hid (size_len s)
  obtain ⟨g1, g2, g3⟩ := Ck.vcut_le s.data.toList a
  rw [Hl.out] at g2
  have Hv : Hid (Ck.open_ s.data.toList a = Ck.openOf s.data.toList (vcut s.data.toList a)) := rfl
  obtain ⟨⟨x, t, e0⟩, hg⟩ : ∃ x, x = vcut s.data.toList a := ⟨_, rfl⟩
  rw [← hg] at g1 g2 g3 Hv
  simp only at g1 g2 g3
  have Hg := Lib.hid hg
  clear hg
  obtain ⟨p, hp, sp, lp⟩ := name_str x
  rw [← sp] at g1
  have Hp := Lib.hid hp
  have Lp := Lib.hid lp
  clear hp sp lp
  go_enter Tryd.func30, Tryd.ntmps30
  go_wp2_with fail
  refine (cut_any s a _ hs h1 h2 hT).mono ?_
  rintro e w1 ⟨rfl, k1⟩
  rw [← Hg.out]
  unfold tups
  simp only
  rw [Hp.out]
  by_cases b1 : e0 = 0
  · subst b1
    by_cases b2 : s.size - t < 4
    · go_wp2
      go_ret3
      refine ⟨?_, k1⟩
      rw [Hv.out, Ck.openOf, if_neg (by simp), if_pos (by simp only; rw [Hl.out]; exact b2)]
      rfl
    · have b3 : t + 4 ≤ s.size := by omega
      obtain ⟨q, hq, sq, lq⟩ := name_str (Ck.four (Ck.add 0 p.data.toList))
      have Hq := Lib.hid hq
      have Lq := Lib.hid lq
      clear hq sq lq
      have s1 : Steps w1.drew g := (hS.kept k1).kept (Kept.drew (Kept.refl _))
      have r1 : (t : Int) ≤ (t : Int) + 4 := by omega
      have r2 : 0 ≤ (t : Int) + 4 := by omega
      have r3 : (t : Int) + 4 ≤ s.size := by omega
      have r4 : ((t : Int) + 4).toNat = t + 4 := by omega
      by_cases b4 : (s.data.toList.drop t).take 4 = Ck.four (Ck.sum x)
      · have hE : ((s.extract t (t + 4)).toList != q.toList) = false := by
          rw [extract_str, toList_eq, toList_eq, Lq.out, Lp.out]
          show ((s.data.toList.drop t).take 4 != Ck.four (Ck.sum x)) = false
          rw [b4]; simp
        have hE' : ((s.extract t (t + 4)).toList == q.toList) = true := by simpa [bne] using hE
        have Hb := Lib.hid b4
        clear b4
        go_wp2_with fail
        go_region_held3 (fun w' => Steps w' g) (first | exact s1 | exact s1.kept k2 | exact (s1.kept k2).kept k3)
          (first
            | (go_at_call 24; refine (addby_any g 0 p _ (by decide) (by unfold maxLen; omega) (by assumption)).mono ?_; rintro e w2 ⟨rfl, k2⟩)
            | (go_at_call 27; refine (sumBytes_any _ _ (Ck.add_lt _ _)).mono ?_; rintro e w3 ⟨rfl, k3⟩; rw [Hq.out]))
        go_wp2
        go_ret3
        refine ⟨?_, ((k1.trans (Kept.drew (Kept.refl _))).trans k2).trans k3⟩
        rw [Hv.out, Ck.openOf, if_neg (by simp), if_neg (by simp only; rw [Hl.out]; exact b2), if_pos Hb.out]
        exact tups_mk p x (t + 4) 0 Hp.out
      · have hE : ((s.extract t (t + 4)).toList != q.toList) = true := by
          rw [extract_str, toList_eq, toList_eq, Lq.out, Lp.out]
          show ((s.data.toList.drop t).take 4 != Ck.four (Ck.sum x)) = true
          rw [bne_iff_ne]; exact b4
        have hE' : ((s.extract t (t + 4)).toList == q.toList) = false := by simpa [bne] using hE
        go_wp2_with fail
        go_region_held3 (fun w' => Steps w' g) (first | exact s1 | exact s1.kept k2 | exact (s1.kept k2).kept k3)
          (first
            | (go_at_call 24; refine (addby_any g 0 p _ (by decide) (by unfold maxLen; omega) (by assumption)).mono ?_; rintro e w2 ⟨rfl, k2⟩)
            | (go_at_call 27; refine (sumBytes_any _ _ (Ck.add_lt _ _)).mono ?_; rintro e w3 ⟨rfl, k3⟩; rw [Hq.out]))
        go_wp2
        go_ret3
        refine ⟨?_, ((k1.trans (Kept.drew (Kept.refl _))).trans k2).trans k3⟩
        rw [Hv.out, Ck.openOf, if_neg (by simp), if_neg (by simp only; rw [Hl.out]; exact b2), if_neg b4]
        rfl
  · go_wp2
    go_ret3
    refine ⟨?_, k1⟩
    rw [Hv.out, Ck.openOf, if_pos b1]
    rfl

theorem open_any (s : ByteArray) (a : Int) (w : World) (hs : s.size ≤ 140737488355328) (h1 : -9223372036854775808 ≤ a) (h2 : a ≤ 9223372036854775807) (hT : Tab w) :
    Calls Tryd.prog 18 #[.string s, .int .i64 a] w fun e w' => e = .returned (tups (Ck.open_ s.data.toList a)) ∧ Kept w w' := by
  go_enter Tryd.func18, Tryd.ntmps18
  go_wp2_with fail
  refine (makeSteps_any _).mono ?_
  rintro e w1 ⟨rfl, k1, s1⟩
  go_wp2_with fail
  refine (openby_any _ s a _ hs h1 h2 (hT.kept k1) s1).mono ?_
  rintro e w2 ⟨rfl, k2⟩
  unfold tups
  go_wp2
  go_ret3
  exact ⟨rfl, k1.trans k2⟩
end Go.Proofs.YthkfkcjhmhjocaaDoor
