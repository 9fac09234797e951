/-
  The walk of the law CheckBack.
-/
import Derived.Test.YthkfkcjhmhjocaaDoorKfixed
namespace Go.Proofs.YthkfkcjhmhjocaaDoor
open Go.ChangeShapes Go.WideShapes Go.ChangeAt Go.RowKit

theorem str_take (T : ByteArray) (d : Nat) (l : List UInt8) (h : T.data.toList.take d = l) : str l = .string (T.extract 0 d) := by
  rw [← h, str]
  congr 1
  apply ByteArray.ext
  apply Array.toList_inj.1
  simp [ByteArray.data_extract, List.extract_eq_take_drop]

set_option maxHeartbeats 1000000 in
set_option maxRecDepth 100000 in
theorem cback_walk (s a b : ByteArray) (w : World) (hs : s.size ≤ maxLen) (ha : a.size ≤ maxLen) (hb : b.size ≤ maxLen) (hT : Tab w) :
    Calls Tryd.prog 5 #[.string s, .string a, .string b] w fun e w' => e = .returned (.bool true) ∧ Kept w w' := by
  unfold maxLen at hs ha hb
  go_enter Tryd.func5, Tryd.ntmps5
  go_wp2_with fail
  have ss := cut_size s 300
  have sa := cut_size a 300
  have sb := cut_size b 300
  simp only [Int.cast_ofNat_Int] at ss sa sb
  generalize s.extract 0 (min (s.size : Int) 300).toNat = S at ss ⊢
  generalize a.extract 0 (min (a.size : Int) 300).toNat = A at sa ⊢
  generalize b.extract 0 (min (b.size : Int) 300).toNat = B at sb ⊢
  clear hs ha hb
  refine (seal_any S _ (by omega) hT).mono ?_
  rintro e w1 ⟨rfl, k1⟩
  have t1 := hT.kept k1
  have hsl := size_len S
  obtain ⟨q, hq, sq, lq⟩ := name_str (Ck.seal_ S.data.toList)
  rw [hq]
  have hz := Vn.vsz_pos S.size
  have sq2 : q.size ≤ 313 := by rw [sq, Ck.seal_length, hsl]; omega
  have ho := Ck.open_seal A.data.toList S.data.toList B.data.toList (by omega)
  rw [← lq, size_len, size_len] at ho
  have hcat : (A ++ q ++ B).data.toList = A.data.toList ++ (q.data.toList ++ B.data.toList) := by simp [ByteArray.data_append]
  rw [← hcat] at ho
  have Ho := Lib.hid ho
  clear hq sq lq ho hcat hsl hz
  go_wp2_with fail
  refine (open_any _ _ _ (by simp only [ByteArray.size_append]; omega) (by omega) (by omega) t1).mono ?_
  rintro e w2 ⟨rfl, k2⟩
  rw [Ho.out]
  unfold tups
  simp only
  rw [show str S.data.toList = .string S from by simp [str], Int.natCast_add]
  have t2 := t1.kept k2
  go_wp2_with fail
  refine (open_any B 0 _ (by omega) (by omega) (by omega) t2).mono ?_
  rintro e w3 ⟨rfl, k3⟩
  have t3 := t2.kept k3
  have he := Ck.open_err B.data.toList 0
  have hg := Ck.open_got B.data.toList
  have hle := (Ck.open_le B.data.toList 0).1
  generalize Ck.open_ B.data.toList 0 = c at he hg hle ⊢
  obtain ⟨x, d, f⟩ := c
  simp only at he hg hle
  by_cases hf : f = 0
  · subst hf
    obtain ⟨d0, d1, d2, d3⟩ := hg rfl
    rw [size_len] at d1
    have Hput := Lib.hid (str_take B d _ d3)
    obtain ⟨p, hp, sp, lp⟩ := name_str x
    rw [← sp] at d2
    rw [← lp] at Hput
    unfold tups
    simp only
    rw [hp]
    clear he hg d3 hp sp lp
    have t4 : Tab w3.drew := t3.kept (Kept.drew (Kept.refl _))
    go_wp2_with fail
    go_region_held3 (fun w' => Tab w') (first | exact t4 | exact t4.kept e4 | exact (t4.kept e4).kept e5)
      (first
        | (go_at_call 15; refine (seal_any p _ (by omega) (by assumption)).mono ?_; rintro e w4 ⟨rfl, e4⟩; rw [Hput.out])
        | (go_at_call 17; refine (fixed2_any _ (by assumption)).mono ?_; rintro e w5 ⟨rfl, e5⟩))
    go_wp2
    go_ret
    exact ⟨rfl, ((((k1.trans k2).trans k3).trans (Kept.drew (Kept.refl _))).trans e4).trans e5⟩
  · have he' := he hf
    simp only [Prod.mk.injEq, and_true] at he'
    obtain ⟨rfl, rfl⟩ := he'
    clear he hg
    have hf3 : ((f : Int) == 0) = false := by simp only [beq_eq_false_iff_ne]; omega
    have hf4 : ((f : Int) != 0) = true := by simp [bne, hf3]
    unfold tups
    simp only
    rw [show str [] = .string ⟨#[]⟩ from rfl]
    go_wp2_with fail
    refine (fixed2_any _ t3).mono ?_
    rintro e w4 ⟨rfl, e4⟩
    go_wp2
    go_ret
    exact ⟨rfl, ((k1.trans k2).trans k3).trans e4⟩
end Go.Proofs.YthkfkcjhmhjocaaDoor
