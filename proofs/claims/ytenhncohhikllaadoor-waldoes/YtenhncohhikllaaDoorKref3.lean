/-
  The walk of the document's own All.
-/
import Derived.Test.YtenhncohhikllaaDoorKropen
import Derived.Test.YtenhncohhikllaaDoorKrows
namespace Go.Proofs.YtenhncohhikllaaDoor
open Go.ChangeShapes Go.WideShapes Go.ChangeAt Go.RowKit

theorem own_empty (w : World) : OwnS (w.alloc (.cells #[] 9)) w.heap.size (.slice (some ⟨w.heap.size, 0, none⟩) 0 0) [] :=
  ⟨rfl, .inr ⟨w.heap.size, 0, #[], rfl, Nat.le_refl _, heap_alloc_new w _, Nat.le_refl _, Nat.zero_le _, rfl, rfl⟩⟩
set_option maxHeartbeats 1000000 in
set_option maxRecDepth 100000 in
theorem refall_any (s : ByteArray) (w : World) (hs : s.size ≤ 100000) :
    Calls Tryd.prog 63 #[.string s] w fun e w' => ∃ v, e = .returned (.tuple #[v, .int .i64 (Ck.all_ s.data.toList).2]) ∧ OwnS w' w.heap.size v (Ck.all_ s.data.toList).1 ∧ Kept w w' := by
  obtain ⟨i0, hi, hz0, hz1, hz2⟩ := info_parts infoStr
  have Hi := Lib.hid hi
  have Hz0 := Lib.hid hz0
  have Hz1 := Lib.hid hz1
  have Hz2 := Lib.hid hz2
  clear hi hz0 hz1 hz2
  have Hl := Lib.hid (size_len s)
  go_enter Tryd.func63, Tryd.ntmps63
  go_wp2
  go_loopw [4, 5] (fun v a wr => ∃ (xs : List (List UInt8)) (p : Nat), a = .int .i64 p ∧ OwnS wr w.heap.size v xs ∧ Kept w wr ∧ AllTo s.data.toList xs p) (fun _ a _ => s.size - (intOf a).toNat)
  case atStart => exact ⟨[], 0, rfl, own_empty _, Kept.alloc (Kept.refl _) _, allTo_start _⟩
  case round =>
    obtain ⟨xs, p, rfl, hown, kr, hto⟩ := hrel
    have hp := hto.1
    have hx := hto.2.1
    rw [Hl.out] at hp
    by_cases hend : p < s.size
    · go_wp2_with fail
      refine (refopen_any s p _ hs (by omega) (by omega)).mono ?_
      rintro e w2 ⟨rfl, k2⟩
      have hown2 := hown.kept k2
      have kr2 := kr.trans k2
      obtain ⟨⟨x, t, e0⟩, hg⟩ : ∃ x, x = Ck.open_ s.data.toList p := ⟨_, rfl⟩
      rw [← hg]
      have hst := allTo_stop hto
      have hnx := allTo_next hto
      rw [← hg] at hst hnx
      simp only at hst hnx
      have Hst := Lib.hid hst
      have Hnx := Lib.hid hnx
      obtain ⟨q, hq, sq, lq⟩ := name_str x
      have Hq := Lib.hid hq
      clear hg hst hnx hto hown hq sq lq
      unfold tups
      simp only
      rw [Hq.out]
      by_cases b1 : e0 = 0
      · subst b1
        obtain ⟨hto2, hpt⟩ := Hnx.out rfl
        have ht := hto2.1
        rw [Hl.out] at ht
        go_wp2_with (first
          | (at_builtin; refine wpList_append_own _ rfl _ _ 49 rfl w.heap.size 9 i0 (.string ⟨#[]⟩) 1 16 Tryd.underlying49 Hi.out Hz0.out Hz1.out Hz2.out rfl (by decide) _ _ _ rfl (World.ownsRow.alloc hown2 _) ⟨w2.heap.size, 0, none⟩ 1 1 [.string q] rfl rfl (one_cell _ _) (one_one _) (by unfold maxLen; omega) (by omega) (by have := kr2.size; simp; omega) ?_))
        intro v' w3 hown3 hgrow _
        have kr3 : Kept w w3 := kept_grown (kr2.alloc _) hgrow (fun k hk => (World.ownsRow.lt hown2 k hk).1)
        have hown4 := own_snoc Hq.out hown3
        clear hown3 hgrow hown2
        go_wp2
        go_roundw
        case rel => exact ⟨xs ++ [x], t, rfl, hown4, kr3, hto2⟩
        case measure => simp [intOf]; omega
      · have hb : ((e0 : Int) == 0) = false := by rw [beq_eq_false_iff_ne]; omega
        have hb2 : ((e0 : Int) != 0) = true := by simp [bne, hb]
        go_wp2
        go_ret2
        refine ⟨u4, ?_, ?_, kr2⟩
        · rw [Hst.out b1]; rfl
        · rw [Hst.out b1]; exact hown2
    · obtain rfl : p = s.size := by omega
      have hst := allTo_stop hto (by rw [← Hl.out]; exact Ck.open_end _)
      have Hst := Lib.hid hst
      clear hst hto
      go_wp2
      go_ret2
      refine ⟨u4, ?_, ?_, kr⟩
      · rw [Hst.out]; rfl
      · rw [Hst.out]; exact hown
end Go.Proofs.YtenhncohhikllaaDoor
