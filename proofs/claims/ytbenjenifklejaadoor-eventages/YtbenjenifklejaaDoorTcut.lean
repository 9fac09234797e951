/-
  Cutting a text at its first sign /: strings.Cut.
-/
import Derived.Test.YtbenjenifklejaaDoorTmath
import Derived.Lib.Bytealg
import Derived.Laws.StandIn
import Derived.Laws.Strings3
import Derived.Lib.Walk
namespace Go.Proofs.YtbenjenifklejaaDoor
open Go.ChangeShapes Go.WideShapes Go.ChangeAt Go.RowKit

namespace Tp
def cut : L → L × L × Bool
  | [] => ([], [], false)
  | c :: l => if c = 47 then ([], l, true) else (c :: (cut l).1, (cut l).2.1, (cut l).2.2)
theorem lev_by_cut : ∀ l, lev l = if (cut l).2.2 then (cut l).1 :: lev (cut l).2.1 else [(cut l).1]
  | [] => rfl
  | c :: l => by
    by_cases h : c = 47
    · subst h; rw [lev_slash, cut, if_pos rfl, if_pos rfl]
    · obtain ⟨x, xs, e1, e2⟩ := lev_head c l h
      rw [lev_by_cut l] at e1
      rw [cut, if_neg h, e2]
      simp only
      split at e1
      · rename_i hm; rw [if_pos hm]; cases e1; rfl
      · rename_i hm; rw [if_neg hm]; cases e1; rfl
theorem cut_left : ∀ l, (cut l).2.2 = true → (cut l).2.1.length < l.length
  | [], h => by simp [cut] at h
  | c :: l, h => by
    rw [cut] at h ⊢
    by_cases hc : c = 47
    · rw [if_pos hc]; simp
    · rw [if_neg hc] at h ⊢; have := cut_left l h; simp only [List.length_cons]; omega
theorem cut_none_left : ∀ l, (cut l).2.2 = false → (cut l).2.1 = []
  | [], _ => rfl
  | c :: l, h => by
    rw [cut] at h ⊢
    by_cases hc : c = 47
    · rw [if_pos hc] at h; cases h
    · rw [if_neg hc] at h ⊢; exact cut_none_left l h
theorem cut_le : ∀ l, (cut l).1.length ≤ l.length ∧ (cut l).2.1.length ≤ l.length
  | [] => by simp [cut]
  | c :: l => by
    rw [cut]
    by_cases hc : c = 47
    · rw [if_pos hc]; simp
    · rw [if_neg hc]; have := cut_le l; simp only [List.length_cons]; omega
theorem cut_index : ∀ l : L, (Lib.indexByte l 47 = -1 ∧ cut l = (l, [], false)) ∨ (∃ k : Nat, Lib.indexByte l 47 = k ∧ k < l.length ∧ cut l = (l.take k, l.drop (k + 1), true))
  | [] => .inl ⟨rfl, rfl⟩
  | c :: l => by
    rw [Lib.indexByte, cut]
    by_cases h : c = 47
    · subst h
      exact .inr ⟨0, by simp, by simp, by simp⟩
    · rw [if_neg h, if_neg (by simpa using h)]
      rcases cut_index l with ⟨h1, h2⟩ | ⟨k, h1, h2, h3⟩
      · rw [h1, h2]; exact .inl ⟨by simp, rfl⟩
      · rw [h1, h3]
        refine .inr ⟨k + 1, ?_, by simp; omega, rfl⟩
        rw [if_neg (by simp)]
        rfl
end Tp

theorem str_size (s : ByteArray) : s.data.toList.length = s.size := by simp
/-- a text by name -/
theorem name_list (l : List UInt8) : ∃ p : ByteArray, str l = .string p ∧ p.size = l.length ∧ p.data.toList = l := ⟨⟨l.toArray⟩, rfl, rfl, rfl⟩
theorem extract_list (s : ByteArray) (a b : Nat) : (s.extract a b).data.toList = (s.data.toList.drop a).take (b - a) := by
  simp [ByteArray.data_extract, List.extract_eq_take_drop]

theorem e48 (s : ByteArray) (w : World) : (callFunc 93 #[.string s, .int .u8 47]).run Tryd.prog w = .ok (.value (.int .i64 (Lib.indexByte s.data.toList 47))) w := by
  rw [run_callFunc_indexByte Tryd.func93 (by kernel_rfl) (by kernel_rfl) (by kernel_rfl) (by kernel_rfl), Lib.run_indexByteString]
  rfl

theorem indexByte_any (s : ByteArray) (w : World) :
    Calls Tryd.prog 87 #[.string s, .int .u8 47] w fun e w' => e = .returned (.int .i64 (Lib.indexByte s.data.toList 47)) ∧ w' = w := by
  have hx := e48 s
  go_enter Tryd.func87, Tryd.ntmps87
  go_wp2
  go_ret
  exact ⟨rfl, rfl⟩

set_option maxRecDepth 100000 in
theorem index_any (s : ByteArray) (w : World) :
    Calls Tryd.prog 81 #[.string s, .string ⟨#[47]⟩] w fun e w' => e = .returned (.int .i64 (Lib.indexByte s.data.toList 47)) ∧ w' = w := by
  by_cases h : s.data.toList = [47]
  · have e1 : ([47] == s.toList) = true := by rw [toList_eq, h]; rfl
    have e2 : Lib.indexByte s.data.toList 47 = 0 := by rw [h]; rfl
    rw [e2]
    clear e2 h
    go_enter Tryd.func81, Tryd.ntmps81
    go_wp2_with fail
    go_ret
    exact ⟨rfl, rfl⟩
  · have e1 : ([47] == s.toList) = false := by rw [beq_eq_false_iff_ne, toList_eq]; exact fun e => h e.symm
    clear h
    go_enter Tryd.func81, Tryd.ntmps81
    go_wp2_with fail
    refine (indexByte_any s _).mono ?_
    rintro e w' ⟨rfl, rfl⟩
    go_wp2_with fail
    go_ret
    exact ⟨rfl, rfl⟩

set_option maxHeartbeats 400000 in
theorem cut_inner (s : ByteArray) (w : World) (hs : s.size ≤ 281474976710656) :
    Calls Tryd.prog 74 #[.string s, .string ⟨#[47]⟩] w fun e w' => ∃ a b m, e = .returned (.tuple #[.string a, .string b, .bool m]) ∧ Tp.cut s.data.toList = (a.data.toList, b.data.toList, m) ∧ ∃ n, w' = w.drewN n := by
  rcases Tp.cut_index s.data.toList with ⟨h1, h2⟩ | ⟨k, h1, h2, h3⟩
  · have H2 := Lib.hid h2
    have H1 := Lib.hid h1
    clear h1 h2
    go_enter Tryd.func74, Tryd.ntmps74
    go_wp2_with fail
    refine (index_any s _).mono ?_
    rintro e w' ⟨rfl, rfl⟩
    rw [H1.out]
    go_wp2
    go_ret3
    exact ⟨s, ⟨#[]⟩, false, rfl, H2.out, 0, rfl⟩
  · rw [str_size] at h2
    have H3 := Lib.hid h3
    have H1 := Lib.hid h1
    clear h1 h3
    go_enter Tryd.func74, Tryd.ntmps74
    go_wp2_with fail
    refine (index_any s _).mono ?_
    rintro e w' ⟨rfl, rfl⟩
    rw [H1.out]
    go_wp2
    go_quiet (fail)
    go_wp2
    go_ret3
    refine ⟨s.extract 0 k, s.extract (k + 1) s.size, true, rfl, ?_, _, rfl⟩
    rw [H3.out, extract_list, extract_list, List.drop_zero, Nat.sub_zero, List.take_of_length_le (l := List.drop (k + 1) s.data.toList) (by rw [List.length_drop, str_size]; exact Nat.le_refl _)]

theorem scut_any (s : ByteArray) (w : World) (hs : s.size ≤ 281474976710656) :
    Calls Tryd.prog 67 #[.string s, .string ⟨#[47]⟩] w fun e w' => ∃ a b m, e = .returned (.tuple #[.string a, .string b, .bool m]) ∧ Tp.cut s.data.toList = (a.data.toList, b.data.toList, m) ∧ ∃ n, w' = w.drewN n := by
  go_enter Tryd.func67, Tryd.ntmps67
  go_wp2_with fail
  refine (cut_inner s _ hs).mono ?_
  rintro e w' ⟨a, b, m, rfl, h, hw⟩
  go_wp2
  go_ret3
  exact ⟨a, b, m, rfl, h, hw⟩
end Go.Proofs.YtbenjenifklejaaDoor
