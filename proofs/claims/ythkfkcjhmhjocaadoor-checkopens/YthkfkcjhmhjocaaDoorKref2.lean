/-
  The walks of the document's own Sum, four, Seal, Open and All.
-/
import Derived.Test.YthkfkcjhmhjocaaDoorKref
namespace Go.Proofs.YthkfkcjhmhjocaaDoor
open Go.ChangeShapes Go.WideShapes Go.ChangeAt Go.RowKit

theorem refsum_any (s : ByteArray) (w : World) (hs : s.size ≤ maxLen) :
    Calls Tryd.prog 12 #[.string s] w fun e w' => e = .returned (.int .u32 (Ck.sum s.data.toList)) ∧ w = w' := by
  go_enter Tryd.func12, Tryd.ntmps12
  go_wp2_with fail
  refine (refadd_any 0 s _ (by decide) hs).mono ?_
  rintro e w1 ⟨rfl, rfl⟩
  go_wp2
  go_ret
  exact ⟨rfl, rfl⟩

theorem conv_four (n : Nat) (hn : n < 4294967296) (w : World) :
    (convert 38 9 (.slice (some ⟨w.heap.size, 0, none⟩) 4 4)).run Tryd.prog (w.alloc (.cells #[.int .u8 ((n : Int) % 256), .int .u8 ((n : Int) / 256 % 256), .int .u8 ((n : Int) / 65536 % 256), .int .u8 ((n : Int) / 16777216)] 5)) =
      .ok (.string ⟨(Ck.four n).toArray⟩) (w.alloc (.cells #[.int .u8 ((n : Int) % 256), .int .u8 ((n : Int) / 256 % 256), .int .u8 ((n : Int) / 65536 % 256), .int .u8 ((n : Int) / 16777216)] 5)) := by
  have e : #[Value.int .u8 ((n : Int) % 256), .int .u8 ((n : Int) / 256 % 256), .int .u8 ((n : Int) / 65536 % 256), .int .u8 ((n : Int) / 16777216)] = byteRow (Ck.four n) := by
    unfold Ck.four byteRow
    simp only [List.map_cons, List.map_nil, UInt8.toNat_ofNat']
    rw [show ((n : Int) % 256) = ((n % 2 ^ 8 : Nat) : Int) from by omega, show ((n : Int) / 256 % 256) = ((n / 256 % 2 ^ 8 : Nat) : Int) from by omega,
      show ((n : Int) / 65536 % 256) = ((n / 65536 % 2 ^ 8 : Nat) : Int) from by omega, show ((n : Int) / 16777216) = ((n / 16777216 % 2 ^ 8 : Nat) : Int) from by omega]
  rw [e]
  exact conv_new w _ (Ck.four n) 4 rfl

set_option maxHeartbeats 400000 in
theorem reffour_any (n : Nat) (w : World) (hn : n < 4294967296) :
    Calls Tryd.prog 29 #[.int .u32 n] w fun e w' => e = .returned (str (Ck.four n)) ∧ Kept w w' := by
  have hcv := conv_four n hn w
  go_enter Tryd.func29, Tryd.ntmps29
  go_wp2
  go_ret
  exact ⟨rfl, Kept.alloc (Kept.refl w) _⟩

set_option maxHeartbeats 400000 in
theorem refseal_any (s : ByteArray) (w : World) (hs : s.size ≤ 140737488355328) :
    Calls Tryd.prog 16 #[.string s] w fun e w' => e = .returned (str (Ck.seal_ s.data.toList)) ∧ Kept w w' := by
  have hz := Vn.vsz_pos s.size
  have hl := Lib.hid (size_len s)
  go_enter Tryd.func16, Tryd.ntmps16
  go_wp2_with fail
  refine (reftext_any s _ hs).mono ?_
  rintro e w1 ⟨rfl, k1⟩
  obtain ⟨p, hp, sp, lp⟩ := name_str (Vn.vput s.size ++ s.data.toList)
  rw [hp]
  have sp' : p.size ≤ s.size + 9 := by rw [sp, List.length_append, Vn.vput_length, hl.out]; omega
  have Lp := Lib.hid lp
  clear hp sp lp
  go_wp2_with fail
  refine (refsum_any s _ (by unfold maxLen; omega)).mono ?_
  rintro e w2 ⟨rfl, rfl⟩
  go_wp2_with fail
  refine (reffour_any (Ck.sum s.data.toList) _ (Ck.add_lt _ _)).mono ?_
  rintro e w3 ⟨rfl, k3⟩
  obtain ⟨q, hq, sq, lq⟩ := name_str (Ck.four (Ck.sum s.data.toList))
  rw [hq]
  have sq' : q.size ≤ 4 := by rw [sq, Ck.four_length]; exact Nat.le_refl _
  have Lq := Lib.hid lq
  clear hq sq lq
  go_wp2
  go_ret
  refine ⟨str_cat p q _ ?_, k1.trans k3⟩
  rw [Lp.out, Lq.out, Ck.seal_, hl.out]

set_option maxHeartbeats 1000000 in
theorem refopen_any (s : ByteArray) (a : Int) (w : World) (hs : s.size ≤ 1000) (h1 : -9223372036854775808 ≤ a) (h2 : a ≤ 9223372036854775807) :
    Calls Tryd.prog 19 #[.string s, .int .i64 a] w fun e w' => e = .returned (tups (Ck.open_ s.data.toList a)) ∧ Kept w w' := by
  have Hl := Lib.hid (size_len s)
  obtain ⟨g1, g2, g3⟩ := Ck.vcut_le s.data.toList a
  rw [Hl.out] at g2
  have Hv : Hid (Ck.open_ s.data.toList a = Ck.openOf s.data.toList (vcut s.data.toList a)) := rfl
  obtain ⟨⟨x, t, e0⟩, hg⟩ : ∃ x, x = vcut s.data.toList a := ⟨_, rfl⟩
  rw [← hg] at g1 g2 g3 Hv
  simp only at g1 g2 g3
  have Hg := Lib.hid hg
  clear hg
  obtain ⟨p, hp, sp, lp⟩ := name_str x
  rw [← sp] at g1
  have Hp := Lib.hid hp
  have Lp := Lib.hid lp
  clear hp sp lp
  go_enter Tryd.func19, Tryd.ntmps19
  go_wp2_with fail
  refine (refcut_any s a _ hs h1 h2).mono ?_
  rintro e w1 ⟨rfl, k1⟩
  rw [← Hg.out]
  unfold tups
  simp only
  rw [Hp.out]
  by_cases b1 : e0 = 0
  · subst b1
    by_cases b2 : s.size - t < 4
    · have b3 : (s.size : Int) < (t : Int) + 4 := by omega
      go_wp2
      go_ret3
      refine ⟨?_, k1⟩
      rw [Hv.out, Ck.openOf, if_neg (by simp), if_pos (by simp only; rw [Hl.out]; exact b2)]
      rfl
    · have b3 : t + 4 ≤ s.size := by omega
      obtain ⟨q, hq, sq, lq⟩ := name_str (Ck.four (Ck.sum p.data.toList))
      have Hq := Lib.hid hq
      have Lq := Lib.hid lq
      clear hq sq lq
      have r1 : (t : Int) ≤ (t : Int) + 4 := by omega
      have r2 : 0 ≤ (t : Int) + 4 := by omega
      have r3 : (t : Int) + 4 ≤ s.size := by omega
      have r4 : ((t : Int) + 4).toNat = t + 4 := by omega
      have r5 : IntKind.i64.wrap ((t : Int) + 4) = (t : Int) + 4 := by rw [IntKind.wrap_i64]; omega
      by_cases b4 : (s.data.toList.drop t).take 4 = Ck.four (Ck.sum x)
      · have hE : ((s.extract t (t + 4)).toList != q.toList) = false := by
          rw [extract_str, toList_eq, toList_eq, Lq.out, Lp.out]
          show ((s.data.toList.drop t).take 4 != Ck.four (Ck.sum x)) = false
          rw [b4]; simp
        have hE' : ((s.extract t (t + 4)).toList == q.toList) = true := by simpa [bne] using hE
        have Hb := Lib.hid b4
        clear b4
        go_wp2_with fail
        go_region_held3 (fun _ => True) (trivial)
          (first
            | (go_at_call 12; refine (refsum_any p _ (by unfold maxLen; omega)).mono ?_; rintro e w2 ⟨rfl, rfl⟩)
            | (go_at_call 29; refine (reffour_any (Ck.sum p.data.toList) _ (Ck.add_lt _ _)).mono ?_; rintro e w3 ⟨rfl, k3⟩; rw [Hq.out]))
        go_wp2
        go_ret3
        refine ⟨?_, (k1.trans (Kept.drew (Kept.refl _))).trans k3⟩
        rw [Hv.out, Ck.openOf, if_neg (by simp), if_neg (by simp only; rw [Hl.out]; exact b2), if_pos Hb.out]
        exact tups_mk p x (t + 4) 0 Hp.out
      · have hE : ((s.extract t (t + 4)).toList != q.toList) = true := by
          rw [extract_str, toList_eq, toList_eq, Lq.out, Lp.out]
          show ((s.data.toList.drop t).take 4 != Ck.four (Ck.sum x)) = true
          rw [bne_iff_ne]; exact b4
        have hE' : ((s.extract t (t + 4)).toList == q.toList) = false := by simpa [bne] using hE
        go_wp2_with fail
        go_region_held3 (fun _ => True) (trivial)
          (first
            | (go_at_call 12; refine (refsum_any p _ (by unfold maxLen; omega)).mono ?_; rintro e w2 ⟨rfl, rfl⟩)
            | (go_at_call 29; refine (reffour_any (Ck.sum p.data.toList) _ (Ck.add_lt _ _)).mono ?_; rintro e w3 ⟨rfl, k3⟩; rw [Hq.out]))
        go_wp2
        go_ret3
        refine ⟨?_, (k1.trans (Kept.drew (Kept.refl _))).trans k3⟩
        rw [Hv.out, Ck.openOf, if_neg (by simp), if_neg (by simp only; rw [Hl.out]; exact b2), if_neg b4]
        rfl
  · go_wp2
    go_ret3
    refine ⟨?_, k1⟩
    rw [Hv.out, Ck.openOf, if_pos b1]
    rfl

theorem own_empty (w : World) : OwnS (w.alloc (.cells #[] 9)) w.heap.size (.slice (some ⟨w.heap.size, 0, none⟩) 0 0) [] :=
  ⟨rfl, .inr ⟨w.heap.size, 0, #[], rfl, Nat.le_refl _, heap_alloc_new w _, Nat.le_refl _, Nat.zero_le _, rfl, rfl⟩⟩
set_option maxHeartbeats 1000000 in
set_option maxRecDepth 100000 in
theorem refall_any (s : ByteArray) (w : World) (hs : s.size ≤ 1000) :
    Calls Tryd.prog 21 #[.string s] w fun e w' => ∃ v, e = .returned (.tuple #[v, .int .i64 (Ck.all_ s.data.toList).2]) ∧ OwnS w' w.heap.size v (Ck.all_ s.data.toList).1 ∧ Kept w w' := by
  obtain ⟨i0, hi, hz0, hz1, hz2⟩ := info_parts infoStr
  have Hi := Lib.hid hi
  have Hz0 := Lib.hid hz0
  have Hz1 := Lib.hid hz1
  have Hz2 := Lib.hid hz2
  clear hi hz0 hz1 hz2
  have Hl := Lib.hid (size_len s)
  go_enter Tryd.func21, Tryd.ntmps21
  go_wp2
  go_loopw [4, 5] (fun v a wr => ∃ (xs : List (List UInt8)) (p : Nat), a = .int .i64 p ∧ OwnS wr w.heap.size v xs ∧ Kept w wr ∧ AllTo s.data.toList xs p) (fun _ a _ => s.size - (intOf a).toNat)
  case atStart => exact ⟨[], 0, rfl, own_empty _, Kept.alloc (Kept.refl _) _, allTo_start _⟩
  case round =>
    obtain ⟨xs, p, rfl, hown, kr, hto⟩ := hrel
    have hp := hto.1
    have hx := hto.2.1
    rw [Hl.out] at hp
    by_cases hend : p < s.size
    · go_wp2_with fail
      refine (refopen_any s p _ hs (by omega) (by omega)).mono ?_
      rintro e w2 ⟨rfl, k2⟩
      have hown2 := hown.kept k2
      have kr2 := kr.trans k2
      obtain ⟨⟨x, t, e0⟩, hg⟩ : ∃ x, x = Ck.open_ s.data.toList p := ⟨_, rfl⟩
      rw [← hg]
      have hst := allTo_stop hto
      have hnx := allTo_next hto
      rw [← hg] at hst hnx
      simp only at hst hnx
      have Hst := Lib.hid hst
      have Hnx := Lib.hid hnx
      obtain ⟨q, hq, sq, lq⟩ := name_str x
      have Hq := Lib.hid hq
      clear hg hst hnx hto hown hq sq lq
      unfold tups
      simp only
      rw [Hq.out]
      by_cases b1 : e0 = 0
      · subst b1
        obtain ⟨hto2, hpt⟩ := Hnx.out rfl
        have ht := hto2.1
        rw [Hl.out] at ht
        go_wp2_with (first
          | (at_builtin; refine wpList_append_own _ rfl _ _ 31 rfl w.heap.size 9 i0 (.string ⟨#[]⟩) 1 16 Tryd.underlying31 Hi.out Hz0.out Hz1.out Hz2.out rfl (by decide) _ _ _ rfl (World.ownsRow.alloc hown2 _) ⟨w2.heap.size, 0, none⟩ 1 1 [.string q] rfl rfl (one_cell _ _) (one_one _) (by unfold maxLen; omega) (by omega) (by have := kr2.size; simp; omega) ?_))
        intro v' w3 hown3 hgrow _
        have kr3 : Kept w w3 := kept_grown (kr2.alloc _) hgrow (fun k hk => (World.ownsRow.lt hown2 k hk).1)
        have hown4 := own_snoc Hq.out hown3
        clear hown3 hgrow hown2
        go_wp2
        go_roundw
        case rel => exact ⟨xs ++ [x], t, rfl, hown4, kr3, hto2⟩
        case measure => simp [intOf]; omega
      · have hb : ((e0 : Int) == 0) = false := by rw [beq_eq_false_iff_ne]; omega
        have hb2 : ((e0 : Int) != 0) = true := by simp [bne, hb]
        go_wp2
        go_ret2
        refine ⟨u4, ?_, ?_, kr2⟩
        · rw [Hst.out b1]; rfl
        · rw [Hst.out b1]; exact hown2
    · obtain rfl : p = s.size := by omega
      have hst := allTo_stop hto (by rw [← Hl.out]; exact Ck.open_end _)
      have Hst := Lib.hid hst
      clear hst hto
      go_wp2
      go_ret2
      refine ⟨u4, ?_, ?_, kr⟩
      · rw [Hst.out]; rfl
      · rw [Hst.out]; exact hown
end Go.Proofs.YthkfkcjhmhjocaaDoor
